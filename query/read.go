package query

import (
	"slices"
	"strings"

	"waywiser/api"
	"waywiser/json"
	"waywiser/path"
)

// most members and conditions may be in a question.
const most = 100

// mark is what names begin with that are no paths.
const mark = "$"

// readQuestion reads a question; false, if it is none.
func readQuestion(v any) (question, bool) {
	o, ok := v.(json.Object)
	if !ok {
		return nil, false
	}
	return gathered(o, readMember)
}

// readMember reads one of a question.
func readMember(m json.Member) (part, bool) {
	switch m.Name {
	case "$and":
		l, ok := readQuestions(m.Value)
		return and(l), ok
	case "$or":
		l, ok := readQuestions(m.Value)
		return or(l), ok
	case "$not":
		q, ok := readQuestion(m.Value)
		return not{q}, ok
	}
	return readLed(m.Name, m.Value)
}

// readQuestions reads a list of them, of which there must be one.
func readQuestions(v any) ([]question, bool) {
	l, _ := v.(json.List)
	if len(l) == 0 {
		return nil, false
	}
	return gathered(l, readQuestion)
}

// readLed reads a path, and what is asked there.
func readLed(name string, v any) (part, bool) {
	if _, e := path.Steps(name); e != api.OK || marked(name) {
		return nil, false
	}
	o, plain := conditions(v)
	asks, ok := gathered(o, readAsk)
	return led{name, plain, asks}, ok
}

// conditions are those that a value tells; one that tells none, and true, if it is what is asked for itself.
func conditions(v any) (json.Object, bool) {
	o, _ := v.(json.Object)
	if len(o) > 0 && !slices.ContainsFunc(o, func(m json.Member) bool { return !marked(m.Name) }) {
		return o, false
	}
	return json.Object{{Name: equal, Value: v}}, true
}

// readAsk reads a condition.
func readAsk(m json.Member) (ask, bool) {
	maker, ok := makers()[m.Name]
	if !ok {
		return ask{}, false
	}
	t, ok := maker(m.Value)
	return ask{m.Name, m.Value, t}, ok
}

// marked: does a name begin as no path does?
func marked(name string) bool { return strings.HasPrefix(name, mark) }

// gathered reads all of a row, one by one; false, if one is none, or they are too many.
func gathered[T any, P part](l []T, read func(T) (P, bool)) ([]P, bool) {
	var out []P
	n := 0
	for _, x := range l {
		p, ok := read(x)
		if !ok {
			return nil, false
		}
		n += p.size()
		if n > most {
			return nil, false
		}
		out = append(out, p)
	}
	return out, true
}
