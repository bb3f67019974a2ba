package plan

import (
	"waywiser/api"
	"waywiser/geom"
	"waywiser/index"
	"waywiser/json"
	"waywiser/order"
	"waywiser/path"
	"waywiser/phrase"
	"waywiser/score"
	"waywiser/shape"
)

// idName is the name of the member that is a document's name.
const idName = "_id"

// hit is a document that is asked for.
type hit struct {
	doc   any
	name  []byte   // its name's key
	keys  [][]byte // of what the paths lead to by which documents are put in order; of nowhere none, which is ahead of all
	near  uint64
	score int
	said  said
}

// said is what a text says: where it has its terms, and how many words it has.
type said struct {
	at     map[string][]int
	length int
}

// saidIn is what the text says to which a path leads in a document; false, if there is none.
func saidIn(doc any, p string) (said, bool) {
	v, _ := path.Get(doc, p)
	text, is := v.(string)
	if !is {
		return said{}, false
	}
	terms, length := index.Terms(text)
	s := said{map[string][]int{}, length}
	for _, t := range terms {
		s.at[t.Text] = t.At
	}
	return s, true
}

// answers: has it what is asked of a text?
func (s said) answers(w *wording) bool {
	has := len(w.terms) == 0
	for _, t := range w.terms {
		has = has || len(s.at[t]) > 0
	}
	if !has {
		return false
	}
	for _, f := range w.phrases {
		if !s.has(f.terms) {
			return false
		}
	}
	return true
}

// has: has it a phrase?
func (s said) has(f phrase.Phrase) bool {
	stands, _ := f.Stands(func(i int) (phrase.Places, api.Errno) {
		return phrase.Places{At: s.at[f[i].Text], Length: s.length}, api.OK
	})
	return stands
}

// hit is a document, if it is asked for; but for its score, which hangs on others, too.
func (a *Ask) hit(doc any) (hit, bool) {
	h := hit{doc: doc}
	if !a.where.Match(doc) || !a.nearIn(&h) || !a.textIn(&h) {
		return hit{}, false
	}
	h.name, _ = keyAt(doc, idName)
	for _, b := range a.sort {
		key, _ := keyAt(doc, b.path)
		h.keys = append(h.keys, key)
	}
	return h, true
}

// nearIn: is there the point that is asked for? How far it is is put down.
func (a *Ask) nearIn(h *hit) bool {
	if a.near == nil {
		return true
	}
	s, is := shapeAt(h.doc, a.near.path)
	if !is || s.Kind != shape.Spot {
		return false
	}
	h.near = geom.Distance(a.near.at, s.Parts[0][0])
	return true
}

// textIn: is there the text that is asked for? What it says is put down.
func (a *Ask) textIn(h *hit) bool {
	if a.text == nil {
		return true
	}
	s, is := saidIn(h.doc, a.text.path)
	h.said = s
	return is && s.answers(a.text)
}

// shapeAt is the shape to which a path leads; false, if it is none.
func shapeAt(doc any, p string) (shape.Shape, bool) {
	v, leads := path.Get(doc, p)
	s, e := shape.Read(v)
	return s, leads && e == api.OK
}

// keyAt is the key of what a path leads to; false, if it leads nowhere.
func keyAt(doc any, p string) ([]byte, bool) {
	v, leads := path.Get(doc, p)
	if !leads {
		return nil, false
	}
	key, e := order.Key(v)
	return key, e == api.OK
}

// weights are what scores hang on: of all texts that there are, and how many of them have each term that is asked for.
type weights struct {
	stats  score.Stats
	counts map[string]int
}

// score is that of what a text says.
func (w weights) score(s said) int {
	sum := 0
	for t, count := range w.counts {
		sum += score.Score(w.stats, count, len(s.at[t]), s.length)
	}
	return sum
}

// shown is what is told of a document.
func (a *Ask) shown(doc any) any {
	if len(a.fields) == 0 {
		return doc
	}
	id, _ := json.Field(doc, idName)
	var out any = json.Object{{Name: idName, Value: id}}
	for _, p := range a.fields {
		v, leads := path.Get(doc, p)
		if !leads {
			continue
		}
		if more, e := path.Put(out, p, v); e == api.OK {
			out = more
		}
	}
	return out
}
