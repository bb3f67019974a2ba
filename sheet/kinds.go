package sheet

import (
	"slices"

	"waywiser/api"
	"waywiser/btree"
	"waywiser/hash"
	"waywiser/index"
	"waywiser/order"
	"waywiser/pool"
	"waywiser/rtree"
	"waywiser/shape"
)

// kept is what an index keeps: values, each with the row of the document that has it there. A value that does not stand in an index of its kind is not kept, and need not be to be dropped.
type kept interface {
	Root() int
	Free() api.Errno
	look() api.Errno // tells what the pool has against its being read
	put(row int, v any) api.Errno
	drop(row int, v any) api.Errno
}

// Each kind of index keeps something else of a value: all values by their order, points by their cells, shapes by their boxes, texts by their words.
type (
	ordered struct{ *btree.Tree }
	celled  struct{ *btree.Tree }
	spotted struct{ *rtree.Tree }
	worded  struct{ *index.Index }
)

// kind is how indexes of a kind are made, and opened.
type kind struct {
	fresh func(p *pool.Pool) (kept, api.Errno)
	open  func(p *pool.Pool, root int) (kept, api.Errno)
}

// kinds are all kinds, by their names.
func kinds() map[string]kind {
	return map[string]kind{
		"order": kindOf(btree.Make, btree.Open, func(t *btree.Tree) kept { return ordered{t} }),
		"cell":  kindOf(btree.Make, btree.Open, func(t *btree.Tree) kept { return celled{t} }),
		"spot":  kindOf(rtree.Make, rtree.Open, func(t *rtree.Tree) kept { return spotted{t} }),
		"text":  kindOf(index.Make, index.Open, func(x *index.Index) kept { return worded{x} }),
	}
}

// kindOf is the kind whose indexes stand on trees of a type.
func kindOf[T any](fresh func(p *pool.Pool) (T, api.Errno), open func(p *pool.Pool, root int) (T, api.Errno), on func(t T) kept) kind {
	of := func(t T, e api.Errno) (kept, api.Errno) {
		if e != api.OK {
			return nil, e
		}
		return on(t), api.OK
	}
	return kind{
		fresh: func(p *pool.Pool) (kept, api.Errno) { return of(fresh(p)) },
		open:  func(p *pool.Pool, root int) (kept, api.Errno) { return of(open(p, root)) },
	}
}

// isKind: is there a kind of that name?
func isKind(name string) bool {
	_, is := kinds()[name]
	return is
}

// keptBy is what an index keeps; ErrNone, if there is none, or it is of another type.
func keptBy[K kept](s *Sheet, x Spec) (K, api.Errno) {
	var none K
	if s == nil {
		return none, api.ErrArg
	}
	at := s.at(x)
	if at < 0 {
		return none, api.ErrNone
	}
	if k, is := s.indexes[at].kept.(K); is {
		return k, api.OK
	}
	return none, api.ErrNone
}

func (o ordered) look() api.Errno {
	_, e := o.Height()
	return e
}

func (o ordered) put(row int, v any) api.Errno { return o.Put(orderKey(v, row), nil) }

func (o ordered) drop(row int, v any) api.Errno { return o.Drop(orderKey(v, row)) }

// between tells the rows of values that are not ahead of low and not behind high, and of others that begin as these do.
func (o ordered) between(low, high any) ([]int, api.Errno) {
	l, e := ranged(o.Tree, nil, beginning(low), beginning(high))
	if e != api.OK {
		return nil, e
	}
	slices.Sort(l)
	return l, api.OK
}

// orderKey is under what a value of a row stands.
func orderKey(v any, row int) []byte { return append(beginning(v), highest(uint64(row))...) }

// beginning is the beginning of a value's key, as much of it as has room in a tree's ahead of a row. As no key begins another one, beginnings that are not alike have the order of their values whatever stands behind them.
func beginning(v any) []byte {
	key, _ := order.Key(v)
	return key[:min(len(key), btree.MaxTreeKey-numberBytes)]
}

func (c celled) look() api.Errno {
	_, e := c.Height()
	return e
}

func (c celled) put(row int, v any) api.Errno {
	if key := cellKey(v, row); key != nil {
		return c.Put(key, nil)
	}
	return api.OK
}

func (c celled) drop(row int, v any) api.Errno {
	if key := cellKey(v, row); key != nil {
		return c.Drop(key)
	}
	return api.OK
}

// box tells the rows of points in the cells of a rect.
func (c celled) box(r api.Rect) ([]int, api.Errno) {
	var l []int
	for _, cells := range hash.Cover(r, api.MaxCover) {
		var e api.Errno
		if l, e = ranged(c.Tree, l, highest(cells.Low), highest(cells.High)); e != api.OK {
			return nil, e
		}
	}
	slices.Sort(l)
	return l, api.OK
}

// cellKey is under what a point of a row stands; nil, if the value is no point's.
func cellKey(v any, row int) []byte {
	s, e := shape.Read(v)
	if e != api.OK || s.Kind != shape.Spot {
		return nil
	}
	code, _ := hash.Code(s.Parts[0][0])
	return append(highest(code), highest(uint64(row))...)
}

func (t spotted) look() api.Errno {
	_, e := t.Height()
	return e
}

func (t spotted) put(row int, v any) api.Errno {
	if s, e := shape.Read(v); e == api.OK {
		return t.Put(rtree.Item{Box: shape.Box(s), Row: row})
	}
	return api.OK
}

func (t spotted) drop(row int, v any) api.Errno {
	if s, e := shape.Read(v); e == api.OK {
		return t.Drop(rtree.Item{Box: shape.Box(s), Row: row})
	}
	return api.OK
}

// inBox tells the rows of what an index keeps in a rect; ErrNone, if it does not keep where something is.
func inBox(k kept, r api.Rect) ([]int, api.Errno) {
	switch x := k.(type) {
	case celled:
		return x.box(r)
	case spotted:
		return rowsOf(x.Window(r))
	}
	return nil, api.ErrNone
}

// rowsOf are those of items.
func rowsOf(l []rtree.Item, e api.Errno) ([]int, api.Errno) {
	if e != api.OK {
		return nil, e
	}
	rows := make([]int, 0, len(l))
	for _, x := range l {
		rows = append(rows, x.Row)
	}
	return rows, api.OK
}

func (w worded) look() api.Errno {
	_, e := w.Stats()
	return e
}

func (w worded) put(row int, v any) api.Errno {
	if text, is := v.(string); is {
		return w.Add(row, text)
	}
	return api.OK
}

func (w worded) drop(row int, v any) api.Errno {
	if _, is := v.(string); is {
		return w.Drop(row)
	}
	return api.OK
}
