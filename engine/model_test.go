package engine_test

import (
	"fmt"
	"maps"
	"slices"
	"strings"

	"waywiser/api"
	"waywiser/disk"
	"waywiser/json"
	"waywiser/order"
	"waywiser/path"
	"waywiser/plan"
	"waywiser/pool"
	"waywiser/query"
	"waywiser/sheet"
	"waywiser/update"
)

const one = 10000000 // a number's parts of one

// rows is a sheet in the plainest way: documents in rows, and which indexes it is said to have.
type rows struct {
	docs  []any
	specs []sheet.Spec
}

// model is an engine in the plainest way: sheets by their names, which are copied ahead of each change.
type model map[string]rows

// members are those that each command has behind its first one; with a sign ? behind them those that it may have.
var members = map[string]string{
	"create": "", "drop": "", "index": "kind path", "unindex": "kind path", "insert": "doc", "replace": "doc",
	"update": "id change", "updates": "where change", "delete": "id", "deletes": "where", "get": "id",
	"find": "ask plan?", "count": "ask", "plans": "ask", "sheets": "", "checkpoint": "",
}

// refuse ends a command of the model with an error.
func refuse(is bool, e api.Errno) {
	if is {
		panic(e)
	}
}

// told ends a command with an error that a call tells.
func told[T any](x T, e api.Errno) T {
	refuse(e != api.OK, e)
	return x
}

// do is the reply to a command, and the model behind it.
func (m model) do(command []byte) (reply string, after model) {
	defer func() {
		if e := recover(); e != nil {
			reply, after = fmt.Sprintf(`{"error":%d}`, e.(api.Errno)), m
		}
	}()
	after = maps.Clone(m)
	out := append(json.Object{{Name: "ok", Value: true}}, after.run(told(json.Parse(command)))...)
	b := told(json.Print(out))
	refuse(len(b) > 1<<20, api.ErrLong)
	return string(b), after
}

// run does what a command says, and tells what is told beside.
func (m model) run(v any) json.Object {
	o, is := v.(json.Object)
	refuse(!is || len(o) == 0, api.ErrCommand)
	needed, is := members[o[0].Name]
	refuse(!is, api.ErrCommand)
	c := map[string]any{}
	for _, x := range o[1:] {
		refuse(!slices.Contains(strings.FieldsFunc(needed, func(r rune) bool { return r == ' ' || r == '?' }), x.Name), api.ErrCommand)
		c[x.Name] = x.Value
		if _, is := x.Value.(string); x.Name == "kind" || x.Name == "path" || x.Name == "plan" {
			refuse(!is, api.ErrCommand)
		}
	}
	for _, name := range strings.Fields(needed) {
		_, is := c[name]
		refuse(!is && !strings.HasSuffix(name, "?"), api.ErrCommand)
	}
	switch o[0].Name {
	case "sheets", "checkpoint":
		refuse(o[0].Value != true, api.ErrCommand)
		if o[0].Name == "checkpoint" {
			return nil
		}
		return m.list()
	}
	name, is := o[0].Value.(string)
	refuse(!is || len(name) < 1 || len(name) > 32, api.ErrCommand)
	for _, c := range []byte(name) {
		refuse((c < 'a' || c > 'z') && (c < '0' || c > '9') && c != '_', api.ErrCommand)
	}
	s, there := m[name]
	if o[0].Name == "create" {
		refuse(there, api.ErrThere)
		refuse(len(m) == 64, api.ErrLong)
		m[name] = rows{}
		return nil
	}
	refuse(!there, api.ErrNone)
	if o[0].Name == "drop" {
		delete(m, name)
		return nil
	}
	s = rows{slices.Clone(s.docs), slices.Clone(s.specs)}
	beside := s.run(o[0].Name, c)
	m[name] = s
	return beside
}

// list is what sheets tells.
func (m model) list() json.Object {
	l := json.List{}
	for _, name := range slices.Sorted(maps.Keys(m)) {
		specs := json.List{}
		for _, x := range m[name].specs {
			specs = append(specs, json.List{x.Kind, x.Path})
		}
		l = append(l, json.List{name, json.Num(len(m[name].docs) * one), specs})
	}
	return json.Object{{Name: "sheets", Value: l}}
}

// run does what a command says of a sheet.
func (s *rows) run(what string, c map[string]any) json.Object {
	switch what {
	case "index", "unindex":
		s.index(what, sheet.Spec{Kind: c["kind"].(string), Path: c["path"].(string)})
	case "insert", "replace":
		told(0, sheet.May(c["doc"]))
		at := s.at(nameOf(c["doc"]))
		refuse(what == "insert" && at >= 0, api.ErrThere)
		refuse(what == "replace" && at < 0, api.ErrNone)
		if what == "insert" {
			s.docs = append(s.docs, c["doc"])
		} else {
			s.docs[at] = c["doc"]
		}
	case "delete", "get", "update":
		at := s.at(c["id"])
		refuse(at < 0, api.ErrNone)
		switch what {
		case "delete":
			s.docs = slices.Delete(s.docs, at, at+1)
			return nil
		case "update":
			s.docs[at] = updated(s.docs[at], c["change"])
		}
		return json.Object{{Name: "doc", Value: s.docs[at]}}
	case "updates", "deletes":
		q := told(query.Read(c["where"]))
		var l []any
		for _, doc := range s.byNames() {
			if q.Match(doc) {
				l = append(l, doc)
			}
		}
		for _, doc := range l {
			at := s.at(nameOf(doc))
			if what == "updates" {
				s.docs[at] = updated(doc, c["change"])
			} else {
				s.docs = slices.Delete(s.docs, at, at+1)
			}
		}
		return json.Object{{Name: "count", Value: json.Num(len(l) * one)}}
	default:
		return s.ask(what, c)
	}
	return nil
}

// index adds an index, or takes one away.
func (s *rows) index(what string, x sheet.Spec) {
	if what == "unindex" {
		at := slices.Index(s.specs, x)
		refuse(at < 0, api.ErrNone)
		s.specs = slices.Delete(s.specs, at, at+1)
		return
	}
	refuse(!slices.Contains([]string{"order", "cell", "spot", "text"}, x.Kind), api.ErrName)
	told(path.Steps(x.Path))
	refuse(slices.Contains(s.specs, x), api.ErrThere)
	refuse(len(s.specs) == 8, api.ErrLong)
	s.specs = append(s.specs, x)
}

// sheet is one that is thrown away, which has the documents, but no indexes.
func (s rows) sheet() *sheet.Sheet {
	bytes := 0
	for _, doc := range s.docs {
		b, _ := json.Print(doc)
		bytes += len(b)
	}
	p, _ := pool.Format(disk.New(100+bytes/100, 512))
	out, _ := sheet.Make(p)
	for _, doc := range s.docs {
		if out.Insert(doc) != api.OK {
			panic("the model's disk is too small")
		}
	}
	return out
}

// ask answers a question by looking all documents through. Of plans it has the names alone.
func (s *rows) ask(what string, c map[string]any) json.Object {
	a := told(plan.Read(c["ask"]))
	bare := rows{}.sheet()
	for _, x := range s.specs {
		bare.AddIndex(x)
	}
	plans := plan.Plans(bare, a)
	by, is := c["plan"]
	l := json.List{}
	switch {
	case what == "plans":
		for _, p := range plans {
			l = append(l, p)
		}
		return json.Object{{Name: "plans", Value: l}}
	case what == "count":
		return json.Object{{Name: "count", Value: json.Num(told(plan.Count(s.sheet(), a)) * one)}}
	case is:
		refuse(!slices.Contains(plans, by.(string)), api.ErrPlan)
	}
	for _, f := range told(plan.Run(s.sheet(), a, "scan")) {
		x := json.Object{{Name: "doc", Value: f.Doc}, {Name: "score", Value: json.Num(f.Score * one)}}
		if _, near := json.Field(c["ask"], "near"); near {
			x = append(x, json.Member{Name: "near", Value: fmt.Sprint(f.Near)})
		}
		l = append(l, x)
	}
	return json.Object{{Name: "found", Value: l}}
}

// updated is a document as a change makes it.
func updated(doc, change any) any {
	out := told(update.Apply(doc, change))
	refuse(!json.Same(nameOf(doc), nameOf(out)), api.ErrUpdate)
	told(0, sheet.May(out))
	return out
}

// nameOf is a document's name.
func nameOf(doc any) any {
	id, _ := json.Field(doc, "_id")
	return id
}

// at is where the document of a name stands; -1, if there is none.
func (s *rows) at(id any) int {
	return slices.IndexFunc(s.docs, func(doc any) bool { return json.Same(nameOf(doc), id) })
}

// byNames are the documents, by their names.
func (s *rows) byNames() []any {
	return slices.SortedFunc(slices.Values(s.docs), func(a, b any) int {
		sign, _ := order.Compare(nameOf(a), nameOf(b))
		return sign
	})
}
