package sheet

import (
	"fmt"
	"math"
	"math/rand"
	"slices"
	"strings"
	"testing"

	"waywiser/api"
	"waywiser/disk"
	"waywiser/hash"
	"waywiser/index"
	"waywiser/json"
	"waywiser/path"
	"waywiser/pool"
	"waywiser/rtree"
	"waywiser/shape"
)

// held tells all that an index keeps, as texts.
func held(t *testing.T, k kept) []string {
	var l []string
	switch x := k.(type) {
	case ordered:
		keys, _ := x.Keys(nil, nil, math.MaxInt)
		for _, key := range keys {
			l = append(l, fmt.Sprint(key))
		}
	case celled:
		keys, _ := x.Keys(nil, nil, math.MaxInt)
		for _, key := range keys {
			l = append(l, fmt.Sprint(key))
		}
	case spotted:
		items, _ := x.Window(api.Rect{MinX: -api.MaxX, MinY: -api.MaxY, MaxX: api.MaxX, MaxY: api.MaxY})
		for _, item := range items {
			l = append(l, fmt.Sprint(item))
		}
	case worded:
		for _, w := range append(strings.Fields("ship boat two old"), strings.Repeat("x", 32)) {
			postings, _ := x.Postings(w)
			for _, p := range postings {
				l = append(l, fmt.Sprint(w, p.Row, p.At))
			}
		}
	default:
		t.Fatal("of no type")
	}
	slices.Sort(l)
	return l
}

// wanted tells what it must keep of a document.
func wanted(x placed, row int, v any) []string {
	number := func(n int) []byte {
		return []byte{0, 0, 0, 0, byte(n >> 24), byte(n >> 16), byte(n >> 8), byte(n)}
	}
	s, e := shape.Read(v)
	switch x.Kind {
	case "order":
		return []string{fmt.Sprint(append(beginning(v), number(row)...))}
	case "cell":
		if e == api.OK && s.Kind == shape.Spot {
			code, _ := hash.Code(s.Parts[0][0])
			return []string{fmt.Sprint(slices.Concat(number(int(code >> 32))[4:], number(int(code & 0xFFFFFFFF))[4:], number(row)))}
		}
	case "spot":
		if e == api.OK {
			return []string{fmt.Sprint(rtree.Item{Box: shape.Box(s), Row: row})}
		}
	case "text":
		text, _ := v.(string)
		terms, _ := index.Terms(text)
		var l []string
		for _, term := range terms {
			l = append(l, fmt.Sprint(term.Text, row, term.At))
		}
		return l
	}
	return nil
}

// wantAgreement wants that indexes hold just the documents that are there.
func wantAgreement(t *testing.T, s *Sheet) {
	t.Helper()
	rows, _ := s.Rows()
	for _, x := range s.indexes {
		var l []string
		for _, row := range rows {
			doc, _ := s.Row(row)
			if v, leads := path.Get(doc, x.Path); leads {
				l = append(l, wanted(x, row, v)...)
			}
		}
		slices.Sort(l)
		if !slices.Equal(held(t, x.kept), l) {
			t.Fatalf("%v holds %v, not %v", x.Spec, held(t, x.kept), l)
		}
	}
}

// TestIndexesHoldDocuments changes documents by chance, and looks at all that indexes keep.
func TestIndexesHoldDocuments(t *testing.T) { // P23.5
	values := []string{`1`, `2`, `"ship"`, `"two old ships, boats"`, `"the"`, `null`, `[1]`, `{"type":"Point","coordinates":[1,2]}`, `{"type":"Point","coordinates":[-180,90]}`, `{"type":"LineString","coordinates":[[1,2],[3,4]]}`, `{"coordinates":[[[0,0],[4,0],[4,4],[0,0]]],"type":"Polygon"}`, `"` + strings.Repeat("x", 70) + `"`, `"` + strings.Repeat("x", 70) + ` ship"`}
	r := rand.New(rand.NewSource(1))
	p, e := pool.Format(disk.New(3000, 512))
	s, f := Make(p)
	if e != api.OK || f != api.OK {
		t.Fatal(e, f)
	}
	for _, kind := range []string{"order", "cell", "spot", "text"} {
		for _, path := range []string{"a", "b.c"} {
			if e := s.AddIndex(Spec{kind, path}); e != api.OK {
				t.Fatal(e)
			}
		}
	}
	one := func() string { return values[r.Intn(len(values))] }
	for range 400 {
		id := r.Intn(12)
		doc, _ := json.Parse(fmt.Appendf(nil, `{"_id":%d,"a":%s,"b":{"c":%s}}`, id, one(), one()))
		if r.Intn(4) == 0 {
			doc, _ = path.Drop(doc, []string{"a", "b", "b.c"}[r.Intn(3)])
		}
		switch r.Intn(4) {
		case 0:
			s.Drop(whole(id))
		case 1:
			s.Replace(doc)
		default:
			s.Insert(doc)
		}
		if r.Intn(9) == 0 {
			x := s.Indexes()[r.Intn(8)]
			if s.DropIndex(x) != api.OK || s.AddIndex(x) != api.OK {
				t.Fatal("an index can't be made anew")
			}
		}
		wantAgreement(t, s)
	}
}

// TestOtherPages opens what sheets left on pages that hold something else by now.
func TestOtherPages(t *testing.T) { // R1
	r := rand.New(rand.NewSource(1))
	for range 300 {
		p, _ := pool.Format(disk.New(300, 512))
		s, _ := Make(p)
		for _, kind := range []string{"order", "cell", "spot", "text"} {
			s.AddIndex(Spec{kind, "a"})
		}
		for i := range 12 {
			s.Insert(json.Object{{Name: "_id", Value: whole(i)}, {Name: "a", Value: "ship" + strings.Repeat(" x", i*9)}})
		}
		told := s.Tell()
		for range 1 + r.Intn(3) {
			page := 1 + r.Intn(p.Taken())
			load, _ := p.Read(page)
			for range 1 + r.Intn(9) {
				load[r.Intn(len(load))] = byte(r.Intn(256))
			}
			p.Write(page, load)
		}
		again, e := Open(p, told)
		if e != api.OK {
			if again != nil {
				t.Fatal("beside an error is a sheet")
			}
			continue
		}
		for i := range 14 {
			again.Get(whole(i))
			again.Row(i)
			again.Replace(json.Object{{Name: "_id", Value: whole(i)}, {Name: "a", Value: whole(i)}})
			again.Drop(whole(i / 2))
			again.Insert(json.Object{{Name: "_id", Value: whole(i)}, {Name: "a", Value: "boat"}})
		}
		again.Rows()
		again.Between(Spec{"order", "a"}, nil, json.Object{})
		again.Box(Spec{"cell", "a"}, api.Rect{})
		again.Box(Spec{"spot", "a"}, api.Rect{})
		again.DropIndex(Spec{"order", "a"})
		again.AddIndex(Spec{"order", "a"})
		again.Free()
	}
}
