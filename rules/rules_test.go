// Package rules tests that the program's code keeps to the rules of shared/LANGUAGE.md, and to the map of shared/DOC.md, as far as its text shows it.
package rules

import (
	"bytes"
	"go/ast"
	"go/format"
	"go/parser"
	"go/token"
	"os"
	"path/filepath"
	"slices"
	"strconv"
	"strings"
	"testing"
)

const module = "waywiser"

// longest is how many lines a function may have: some 60.
const longest = 64

// layers are the packages of the map, from layer 1 on.
var layers = strings.Fields("disk frame num json order path wide geom shape hash log pool btree word rtree stem score block index rank query update sheet plan engine desk")

var library = []string{"bytes", "cmp", "container/heap", "errors", "iter", "maps", "math", "math/bits", "slices", "sort", "strconv", "strings", "sync", "sync/atomic", "unicode", "unicode/utf8"}

// packages are the files of the layers, and of all that they stand on, by the packages' names.
func packages(t *testing.T, set *token.FileSet) map[string][]*ast.File {
	found := map[string][]*ast.File{}
	open := append([]string{"api"}, layers...)
	for len(open) > 0 {
		name := open[0]
		open = open[1:]
		if found[name] != nil {
			continue
		}
		found[name] = files(t, set, name)
		if len(found[name]) == 0 {
			t.Fatalf("package %s is not there", name)
		}
		for _, f := range found[name] {
			for _, p := range imports(f) {
				if own, ok := strings.CutPrefix(p, module+"/"); ok {
					open = append(open, own)
				}
			}
		}
	}
	return found
}

// files are a package's files, its tests left out; each is held against gofmt's layout on the way.
func files(t *testing.T, set *token.FileSet, name string) []*ast.File {
	paths, _ := filepath.Glob(filepath.Join("..", name, "*"))
	var out []*ast.File
	for _, p := range paths {
		if info, err := os.Stat(p); err != nil || info.IsDir() || strings.HasSuffix(p, "_test.go") {
			continue
		}
		if !strings.HasSuffix(p, ".go") {
			t.Errorf("%s is no Go file", p)
			continue
		}
		text, err := os.ReadFile(p)
		if err != nil {
			t.Fatal(err)
		}
		if laid, err := format.Source(text); err != nil || !bytes.Equal(laid, text) {
			t.Errorf("%s is not laid out by gofmt", p)
		}
		f, err := parser.ParseFile(set, p, text, parser.ParseComments)
		if err != nil {
			t.Fatal(err)
		}
		out = append(out, f)
	}
	return out
}

// imports are the paths that a file imports.
func imports(f *ast.File) []string {
	var out []string
	for _, i := range f.Imports {
		p, _ := strconv.Unquote(i.Path.Value)
		out = append(out, p)
	}
	return out
}

func TestImports(t *testing.T) { // LANGUAGE 1, the map
	for name, files := range packages(t, token.NewFileSet()) {
		for _, f := range files {
			for _, p := range imports(f) {
				own, ok := strings.CutPrefix(p, module+"/")
				if !ok && !slices.Contains(library, p) {
					t.Errorf("package %s imports %s", name, p)
				}
				from, to := slices.Index(layers, name), slices.Index(layers, own)
				if from >= 0 && to >= from {
					t.Errorf("layer %s imports %s, which is not below it", name, own)
				}
			}
		}
	}
}

func TestCode(t *testing.T) { // LANGUAGE 2, 9
	set := token.NewFileSet()
	for _, files := range packages(t, set) {
		for _, f := range files {
			for _, g := range f.Comments {
				for _, c := range g.List {
					if strings.HasPrefix(c.Text, "//go:") || strings.HasPrefix(c.Text, "// +build") {
						t.Errorf("%s: %s", set.Position(c.Pos()), c.Text)
					}
				}
			}
			ast.Inspect(f, func(n ast.Node) bool {
				if why := refused(set, n); why != "" {
					t.Errorf("%s: %s", set.Position(n.Pos()), why)
				}
				return true
			})
		}
	}
}

// refused tells why a piece of code may not be, as far as it shows by itself.
func refused(set *token.FileSet, n ast.Node) string {
	switch x := n.(type) {
	case *ast.FuncDecl:
		if set.Position(x.End()).Line-set.Position(x.Pos()).Line >= longest {
			return "a function that is too long"
		}
	case *ast.CallExpr:
		if f, ok := x.Fun.(*ast.Ident); ok && (f.Name == "print" || f.Name == "println") {
			return "printing"
		}
	case *ast.SelectorExpr:
		p, ok := x.X.(*ast.Ident)
		if ok && p.Obj == nil && p.Name == "iter" && strings.HasPrefix(x.Sel.Name, "Pull") {
			return "iter." + x.Sel.Name
		}
		if ok && p.Obj == nil && p.Name == "sync" && !slices.Contains([]string{"Mutex", "RWMutex", "WaitGroup", "Once"}, x.Sel.Name) {
			return "sync." + x.Sel.Name
		}
	}
	return ""
}

func TestPackageLevel(t *testing.T) { // LANGUAGE 3a, 3b
	set := token.NewFileSet()
	for _, files := range packages(t, set) {
		for _, f := range files {
			for _, d := range f.Decls {
				g, ok := d.(*ast.GenDecl)
				if !ok || g.Tok != token.VAR {
					continue
				}
				for _, s := range g.Specs {
					if v := s.(*ast.ValueSpec); !plainTable(v) {
						t.Errorf("%s: a variable that is neither a table nor an error", set.Position(v.Pos()))
					}
				}
			}
		}
	}
}

// plainTable: has a variable a value that is written out, or an error made by errors.New?
func plainTable(v *ast.ValueSpec) bool {
	if len(v.Values) != len(v.Names) {
		return false
	}
	plain := true
	for _, value := range v.Values {
		if c, ok := value.(*ast.CallExpr); ok {
			s, ok := c.Fun.(*ast.SelectorExpr)
			plain = plain && ok && s.Sel.Name == "New"
			continue
		}
		ast.Inspect(value, func(n ast.Node) bool {
			switch x := n.(type) {
			case *ast.MapType, *ast.FuncLit, *ast.CallExpr:
				plain = false
			case *ast.BasicLit:
				plain = plain && x.Kind != token.FLOAT && x.Kind != token.IMAG
			}
			return true
		})
		if b, ok := value.(*ast.BasicLit); ok && b.Kind == token.STRING {
			plain = false
		}
	}
	return plain
}
