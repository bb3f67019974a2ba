package engine

import (
	"slices"
	"strconv"

	"waywiser/api"
	"waywiser/json"
	"waywiser/plan"
	"waywiser/query"
	"waywiser/sheet"
	"waywiser/update"
)

// idName is the name of the member that is a document's name.
const idName = "_id"

// deed is what a command does; it tells what is told beside.
type deed func(w *work) json.Object

// deeds are what all commands do, by their first members' names.
func deeds() map[string]deed {
	return map[string]deed{
		"create":     (*work).create,
		"drop":       (*work).drop,
		"index":      (*work).index,
		"unindex":    (*work).unindex,
		"insert":     (*work).insert,
		"replace":    (*work).replace,
		"update":     (*work).update,
		"updates":    (*work).updates,
		"delete":     (*work).delete,
		"deletes":    (*work).deletes,
		"get":        (*work).get,
		"find":       (*work).find,
		"count":      (*work).count,
		"plans":      (*work).plans,
		"sheets":     (*work).sheets,
		"checkpoint": (*work).checkpoint,
	}
}

// isOfAll: does a command speak of all sheets, not of one?
func isOfAll(first string) bool { return first == "sheets" || first == "checkpoint" }

// partsOf are the names of the members that a command has beside the first one, and of those that it may have.
func partsOf(first string) (needed, free []string) {
	switch first {
	case "index", "unindex":
		return []string{"kind", "path"}, nil
	case "insert", "replace":
		return []string{"doc"}, nil
	case "update":
		return []string{"id", "change"}, nil
	case "updates":
		return []string{"where", "change"}, nil
	case "delete", "get":
		return []string{"id"}, nil
	case "deletes":
		return []string{"where"}, nil
	case "find":
		return []string{"ask"}, []string{"plan"}
	case "count", "plans":
		return []string{"ask"}, nil
	}
	return nil, nil
}

// textParts are the names of members that are texts.
func textParts() []string { return []string{"kind", "path", "plan"} }

func (w *work) create() json.Object {
	names := must(w.names())
	switch {
	case slices.Contains(names, w.name):
		check(api.ErrThere)
	case len(names) >= api.MaxSheets:
		check(api.ErrLong)
	}
	w.begin()
	check(w.keep(w.name, must(sheet.Make(w.pool))))
	return nil
}

func (w *work) drop() json.Object {
	s := w.open()
	w.begin()
	check(s.Free())
	check(w.tree.Drop([]byte(w.name)))
	return nil
}

func (w *work) index() json.Object {
	s := w.open()
	change(w, s, s.AddIndex, w.spec())
	return nil
}

func (w *work) unindex() json.Object {
	s := w.open()
	change(w, s, s.DropIndex, w.spec())
	return nil
}

func (w *work) insert() json.Object {
	s := w.open()
	change(w, s, s.Insert, w.part("doc"))
	return nil
}

func (w *work) replace() json.Object {
	s := w.open()
	change(w, s, s.Replace, w.part("doc"))
	return nil
}

func (w *work) update() json.Object {
	s := w.open()
	doc := w.updated(must(s.Get(w.part("id"))))
	change(w, s, s.Replace, doc)
	return beside("doc", doc)
}

func (w *work) updates() json.Object {
	s, docs := w.matching()
	for i, doc := range docs {
		docs[i] = w.updated(doc)
		check(sheet.May(docs[i]))
	}
	change(w, s, s.Replace, docs...)
	return beside("count", whole(len(docs)))
}

func (w *work) delete() json.Object {
	s := w.open()
	change(w, s, s.Drop, w.part("id"))
	return nil
}

func (w *work) deletes() json.Object {
	s, docs := w.matching()
	change(w, s, s.Drop, listed(docs, nameOf)...)
	return beside("count", whole(len(docs)))
}

func (w *work) get() json.Object {
	return beside("doc", must(w.open().Get(w.part("id"))))
}

func (w *work) find() json.Object {
	a := w.asked()
	s := w.open()
	by := plan.Plans(s, a)[0]
	if w.has("plan") {
		by = w.text("plan")
	}
	_, near := json.Field(w.part("ask"), "near")
	return beside("found", listed(must(plan.Run(s, a, by)), func(f plan.Found) any {
		return found(f, near)
	}))
}

func (w *work) count() json.Object {
	a := w.asked()
	return beside("count", whole(must(plan.Count(w.open(), a))))
}

func (w *work) plans() json.Object {
	a := w.asked()
	return beside("plans", listed(plan.Plans(w.open(), a), text))
}

func (w *work) sheets() json.Object {
	return beside("sheets", listed(must(w.names()), func(name string) any {
		s := must(w.sheet(name))
		return json.List{name, whole(s.Count()), listed(s.Indexes(), func(x sheet.Spec) any {
			return json.List{x.Kind, x.Path}
		})}
	}))
}

func (w *work) checkpoint() json.Object {
	check(w.pool.Checkpoint())
	return nil
}

// open is the sheet of which the command speaks.
func (w *work) open() *sheet.Sheet { return must(w.sheet(w.name)) }

// change does the same with each of some to a sheet, and keeps what it tells of itself then.
func change[T any](w *work, s *sheet.Sheet, do func(x T) api.Errno, with ...T) {
	w.begin()
	for _, x := range with {
		check(do(x))
	}
	check(w.keep(w.name, s))
}

// spec is the index of which the command speaks.
func (w *work) spec() sheet.Spec { return sheet.Spec{Kind: w.text("kind"), Path: w.text("path")} }

// asked is the question of a sheet that the command asks. That the sheet is not there counts ahead of what is wrong with it.
func (w *work) asked() *plan.Ask {
	must(w.told(w.name))
	return must(plan.Read(w.part("ask")))
}

// matching is the sheet, and those of its documents of which the command's question is true, by their names. All are read ahead of the first change: a disk that is down lets nothing be done by halves.
func (w *work) matching() (*sheet.Sheet, []any) {
	must(w.told(w.name))
	q := must(query.Read(w.part("where")))
	s := w.open()
	var l []any
	for _, row := range must(s.Rows()) {
		if doc := must(s.Row(row)); q.Match(doc) {
			l = append(l, doc)
		}
	}
	return s, l
}

// updated is a document as the command changes it.
func (w *work) updated(old any) any {
	doc := must(update.Apply(old, w.part("change")))
	if !json.Same(nameOf(old), nameOf(doc)) {
		check(api.ErrUpdate)
	}
	return doc
}

// nameOf is a document's name; null, if it has none.
func nameOf(doc any) any {
	id, _ := json.Field(doc, idName)
	return id
}

// found is what is told of a document that was found, its distance, if that is asked for.
func found(f plan.Found, near bool) any {
	o := json.Object{{Name: "doc", Value: f.Doc}, {Name: "score", Value: whole(f.Score)}}
	if near {
		o = append(o, json.Member{Name: "near", Value: strconv.FormatUint(f.Near, 10)})
	}
	return o
}
