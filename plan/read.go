package plan

import (
	"slices"

	"waywiser/api"
	"waywiser/geom"
	"waywiser/index"
	"waywiser/json"
	"waywiser/path"
	"waywiser/phrase"
	"waywiser/query"
)

// The most that a question has.
const (
	maxSkip    = 1 << 20
	maxSorts   = 4
	maxPhrases = 8
	maxFields  = 16
)

// nearness is which point is asked for, and how far it is from where.
type nearness struct {
	path string
	at   api.Point
}

// wording is what is asked of a text: at least one of terms, if there are such, and all phrases.
type wording struct {
	path    string
	terms   []string
	phrases []spoken
}

// spoken is a phrase, as a text and taken apart.
type spoken struct {
	text  string
	terms phrase.Phrase
}

// by is what documents are put in order by.
type by struct {
	path   string
	turned bool
}

// fault is why a value is no question: the panic that ends reading it.
type fault struct{ why api.Errno }

// need ends reading, if something is not as it must be.
func need(is bool) {
	if !is {
		panic(fault{api.ErrQuery})
	}
}

// as is a value that must be of a kind.
func as[T any](v any) T {
	x, is := v.(T)
	need(is)
	return x
}

// read reads a question.
func read(v any) (a *Ask, e api.Errno) {
	defer func() {
		if p := recover(); p != nil {
			a, e = nil, p.(fault).why
		}
	}()
	need(json.May(v) == api.OK)
	m := members(v, "where", "near", "text", "sort", "skip", "limit", "fields")
	where := readWhere(m.or("where", json.Object{}))
	a = &Ask{
		where:  where,
		own:    where.Conditions(),
		sort:   each(m.or("sort", json.List{}), maxSorts, readBy),
		skip:   readNumber(m.or("skip", json.Num(0)), 0, maxSkip),
		limit:  readNumber(m.or("limit", json.Num(api.MaxTop*api.Scale)), 1, api.MaxTop),
		fields: each(m.or("fields", json.List{}), maxFields, readPath),
	}
	if v, is := m["near"]; is {
		a.near = readNear(v)
	}
	if v, is := m["text"]; is {
		a.text = readText(v)
	}
	return a, api.OK
}

// parts are an object's members, by their names.
type parts map[string]any

// members are those of an object that may have them alone.
func members(v any, names ...string) parts {
	m := parts{}
	for _, x := range as[json.Object](v) {
		need(slices.Contains(names, x.Name))
		m[x.Name] = x.Value
	}
	return m
}

// or is a member, or something else, if it is not there.
func (m parts) or(name string, other any) any {
	if v, is := m[name]; is {
		return v
	}
	return other
}

// of is a member that must be there.
func (m parts) of(name string) any {
	v, is := m[name]
	need(is)
	return v
}

// each are the items of a list of at most so many, each read.
func each[T any](v any, most int, read func(v any) T) []T {
	l := as[json.List](v)
	need(len(l) <= most)
	var out []T
	for _, x := range l {
		out = append(out, read(x))
	}
	return out
}

func readWhere(v any) *query.Query {
	q, e := query.Read(v)
	need(e == api.OK)
	return q
}

func readNear(v any) *nearness {
	m := members(v, "path", "at")
	sides := each(m.of("at"), 2, as[json.Num])
	need(len(sides) == 2)
	at := api.Point{X: int64(sides[0]), Y: int64(sides[1])}
	need(geom.May(at))
	return &nearness{readPath(m.of("path")), at}
}

func readText(v any) *wording {
	m := members(v, "path", "words", "phrases")
	w := &wording{
		path:    readPath(m.of("path")),
		terms:   termsOf(as[string](m.or("words", ""))),
		phrases: each(m.or("phrases", json.List{}), maxPhrases, readPhrase),
	}
	need(len(w.terms)+len(w.phrases) > 0)
	return w
}

// termsOf are a text's terms alone.
func termsOf(text string) []string {
	l, _ := index.Terms(text)
	var terms []string
	for _, t := range l {
		terms = append(terms, t.Text)
	}
	return terms
}

func readPhrase(v any) spoken {
	text := as[string](v)
	f := phrase.Of(text)
	need(len(f) > 0)
	return spoken{text, f}
}

func readBy(v any) by {
	l := as[json.List](v)
	need(len(l) == 2)
	return by{readPath(l[0]), as[bool](l[1])}
}

func readPath(v any) string {
	p := as[string](v)
	_, e := path.Steps(p)
	need(e == api.OK)
	return p
}

// readNumber reads a whole number from low to high.
func readNumber(v any, low, high int) int {
	n := int(as[json.Num](v))
	need(n%api.Scale == 0 && n >= low*api.Scale && n <= high*api.Scale)
	return n / api.Scale
}
