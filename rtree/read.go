package rtree

import (
	"cmp"
	"container/heap"
	"iter"

	"waywiser/api"
	"waywiser/geom"
	"waywiser/paged"
)

// reader reads a tree's pages.
type reader struct{ paged.Loader }

// step is a page on a way from the root to a leaf, and the entry of it at which the way goes on, or ends.
type step struct {
	page int
	node node
	at   int
}

// reader is one of the tree as it is.
func (t *Tree) reader() reader { return reader{paged.Read(t.pool)} }

// node tells what a page holds.
func (r reader) node(page int) (node, api.Errno) {
	load, e := r.Load(page)
	if e != api.OK {
		return nil, e
	}
	n, is := nodeOf(load)
	if !is {
		return nil, api.ErrForm
	}
	return n, api.OK
}

// find tells the way from a page to an item; none, if it is not there.
func (r reader) find(page int, x Item) ([]step, api.Errno) {
	n, e := r.node(page)
	if e != api.OK {
		return nil, e
	}
	for at, y := range n {
		if y == entry(x) {
			return []step{{page, n, at}}, api.OK
		}
		c, is := y.(child)
		if !is || !c.where.holds(x.span()) {
			continue
		}
		below, e := r.find(c.page, x)
		if e != api.OK {
			return nil, e
		}
		if below != nil {
			return append([]step{{page, n, at}}, below...), api.OK
		}
	}
	return nil, api.OK
}

// place tells the way from the root to the leaf in which a new item is to stand: there behind all others.
func (r reader) place(root int, x Item) ([]step, api.Errno) {
	var way []step
	for page := root; ; {
		n, e := r.node(page)
		if e != api.OK {
			return nil, e
		}
		if !n.isInner() {
			return append(way, step{page, n, len(n)}), api.OK
		}
		at := n.fittest(x.span())
		way = append(way, step{page, n, at})
		page = n.page(at)
	}
}

// overlapping tells the items below a page that overlap a rect.
func (r reader) overlapping(page int, box api.Rect) ([]Item, api.Errno) {
	n, e := r.node(page)
	if e != api.OK {
		return nil, e
	}
	var found []Item
	for _, x := range n {
		if !geom.Overlap(x.span().box, box) {
			continue
		}
		switch y := x.(type) {
		case Item:
			found = append(found, y)
		case child:
			below, e := r.overlapping(y.page, box)
			if e != api.OK {
				return nil, e
			}
			found = append(found, below...)
		}
	}
	return found, api.OK
}

// pages tells all pages below a page, and that one behind them.
func (r reader) pages(page int) ([]int, api.Errno) {
	n, e := r.node(page)
	if e != api.OK {
		return nil, e
	}
	var pages []int
	for _, x := range n {
		c, is := x.(child)
		if !is {
			break
		}
		below, e := r.pages(c.page)
		if e != api.OK {
			return nil, e
		}
		pages = append(pages, below...)
	}
	return append(pages, page), api.OK
}

// near ranges over all items below a page, the nearest to a point first, those that are as near in their order, up to the first error.
func (r reader) near(page int, p api.Point) iter.Seq2[Item, api.Errno] {
	return func(yield func(Item, api.Errno) bool) {
		q := &queue{{entry: child{page: page}}}
		for q.Len() > 0 {
			next, _ := heap.Pop(q).(candidate)
			c, is := next.entry.(child)
			if !is {
				x, _ := next.entry.(Item)
				if !yield(x, api.OK) {
					return
				}
				continue
			}
			n, e := r.node(c.page)
			if e != api.OK {
				yield(Item{}, e)
				return
			}
			for _, x := range n {
				heap.Push(q, candidate{geom.Nearest(x.span().box, p), x})
			}
		}
	}
}

// candidate is an entry, and how far it is from a point.
type candidate struct {
	far uint64
	entry
}

// before: does it come ahead of another one? A child comes by what its items are at least, and ahead of an item that is not more than that, as one of its own may come ahead of it.
func (c candidate) before(other candidate) bool {
	s, o := c.span(), other.span()
	first := cmp.Or(cmp.Compare(c.far, other.far), cmp.Compare(s.from, o.from))
	if first != 0 {
		return first < 0
	}
	_, is := c.entry.(child)
	_, otherIs := other.entry.(child)
	if is != otherIs {
		return is
	}
	return compareSpans(s, o) < 0
}

// queue is candidates, as package heap wants them.
type queue []candidate

// Len tells how many there are.
func (q queue) Len() int { return len(q) }

// Less: does one come ahead of another one?
func (q queue) Less(i, j int) bool { return q[i].before(q[j]) }

// Swap lets two change places.
func (q queue) Swap(i, j int) { q[i], q[j] = q[j], q[i] }

// Push puts one behind the others.
func (q *queue) Push(x any) {
	c, _ := x.(candidate)
	*q = append(*q, c)
}

// Pop takes the last one away.
func (q *queue) Pop() any {
	last := len(*q) - 1
	c := (*q)[last]
	*q = (*q)[:last]
	return c
}
