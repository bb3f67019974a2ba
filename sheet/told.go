package sheet

import (
	"slices"

	"waywiser/api"
	"waywiser/btree"
	"waywiser/json"
	"waywiser/pool"
)

// rooted is an index: which one, and the root of what it keeps.
type rooted struct {
	Spec
	root int
}

// told is what a sheet tells of itself.
type told struct {
	names, texts int // roots
	count, last  int
	indexes      []rooted
}

// told tells it.
func (s *Sheet) told() told {
	t := told{names: s.names.Root(), texts: s.texts.Root(), count: s.count, last: s.last}
	for _, x := range s.indexes {
		t.indexes = append(t.indexes, rooted{x.Spec, x.kept.Root()})
	}
	return t
}

// value tells it as a value.
func (t told) value() any {
	l := json.List{}
	for _, x := range t.indexes {
		l = append(l, json.List{x.Kind, x.Path, whole(x.root)})
	}
	return json.List{whole(t.names), whole(t.texts), whole(t.count), whole(t.last), l}
}

// whole is a whole number as a value.
func whole(n int) json.Num { return json.Num(n * api.Scale) }

// read reads what a sheet told of itself; false, if none can have told that.
func read(v any) (told, bool) {
	l, _ := v.(json.List)
	if len(l) != 5 {
		return told{}, false
	}
	n, ok := numbers(l[:4])
	if !ok {
		return told{}, false
	}
	x, ok := readIndexes(l[4])
	t := told{n[0], n[1], n[2], n[3], x}
	return t, ok && t.may()
}

// numbers are those that values tell; false, if one tells no whole number from 0 on.
func numbers(l json.List) ([]int, bool) {
	var out []int
	for _, v := range l {
		n, ok := v.(json.Num)
		if !ok || n < 0 || n%api.Scale != 0 {
			return nil, false
		}
		out = append(out, int(n/api.Scale))
	}
	return out, true
}

// readIndexes reads a list of indexes.
func readIndexes(v any) ([]rooted, bool) {
	l, ok := v.(json.List)
	var out []rooted
	for _, v := range l {
		x, is := readIndex(v)
		if !is {
			return nil, false
		}
		out = append(out, x)
	}
	return out, ok
}

// readIndex reads one.
func readIndex(v any) (rooted, bool) {
	l, _ := v.(json.List)
	if len(l) != 3 {
		return rooted{}, false
	}
	kind, is := l[0].(string)
	path, ok := l[1].(string)
	n, right := numbers(l[2:])
	if !is || !ok || !right {
		return rooted{}, false
	}
	return rooted{Spec{kind, path}, n[0]}, true
}

// may: may all that is told be told together?
func (t told) may() bool {
	roots := []int{t.names, t.texts}
	var specs []Spec
	for _, x := range t.indexes {
		if !isKind(x.Kind) || !isPath(x.Path) || slices.Contains(specs, x.Spec) {
			return false
		}
		specs = append(specs, x.Spec)
		roots = append(roots, x.root)
	}
	slices.Sort(roots)
	apart := len(slices.Compact(roots)) == len(t.indexes)+2
	return apart && t.count <= t.last && len(specs) <= api.MaxIndexes
}

// open opens the sheet.
func (t told) open(p *pool.Pool) (*Sheet, api.Errno) {
	names, e := opened(btree.Open(p, t.names))
	if e != api.OK {
		return nil, e
	}
	texts, e := opened(btree.Open(p, t.texts))
	if e != api.OK {
		return nil, e
	}
	s := &Sheet{pool: p, names: names, texts: texts, count: t.count, last: t.last}
	for _, x := range t.indexes {
		k, e := opened(kinds()[x.Kind].open(p, x.root))
		if e != api.OK {
			return nil, e
		}
		s.indexes = append(s.indexes, placed{x.Spec, k})
	}
	if e := s.look(); e != api.OK {
		return nil, e
	}
	return s, api.OK
}

// opened is a tree that was opened. A page that is not taken is no sheet's.
func opened[T any](t T, e api.Errno) (T, api.Errno) {
	if e == api.ErrNone {
		e = api.ErrForm
	}
	return t, e
}

// look tells what the pool has against a sheet's being read.
func (s *Sheet) look() api.Errno {
	looks := []func() api.Errno{ordered{s.names}.look, ordered{s.texts}.look}
	for _, x := range s.indexes {
		looks = append(looks, x.kept.look)
	}
	for _, look := range looks {
		if e := look(); e != api.OK {
			return e
		}
	}
	return api.OK
}
