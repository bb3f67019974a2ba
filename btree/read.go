package btree

import (
	"iter"

	"waywiser/api"
	"waywiser/little"
	"waywiser/paged"
)

// linkBytes is how many bytes stand ahead of a far value's, on each of its pages: the next page.
const linkBytes = childBytes

// reader reads a tree's pages.
type reader struct{ paged.Loader }

// step is a page on the way to a key: which of its entries has the key, or leads to it; in a leaf without the key, ahead of which one it would stand.
type step struct {
	page int
	node node
	at   int
}

// entry is that of a step.
func (s step) entry() entry { return s.node[s.at] }

// reader is one of the tree as it is.
func (t *Tree) reader() reader { return reader{paged.Read(t.pool)} }

// node tells what a page holds.
func (r reader) node(page int) (node, api.Errno) {
	load, e := r.Load(page)
	if e != api.OK {
		return nil, e
	}
	n, is := nodeOf(load)
	if !is {
		return nil, api.ErrForm
	}
	return n, api.OK
}

// way tells the pages on the way to a key, from the root to a leaf, and whether it is there.
func (r reader) way(root int, key []byte) (steps []step, there bool, e api.Errno) {
	for page, inner := root, true; inner; {
		n, e := r.node(page)
		if e != api.OK {
			return nil, false, e
		}
		at, is := n.place(key)
		steps = append(steps, step{page, n, at})
		if inner = n.isInner(); inner {
			page, _ = n[at].child()
		}
		there = is
	}
	return steps, there, api.OK
}

// leaves ranges over the leaves below a page, from that one on to which a key belongs, up to the first error.
func (r reader) leaves(page int, key []byte) iter.Seq2[node, api.Errno] {
	return func(yield func(node, api.Errno) bool) {
		r.eachLeaf(page, key, yield)
	}
}

// eachLeaf hands the leaves out one by one, as long as they are asked for.
func (r reader) eachLeaf(page int, key []byte, yield func(node, api.Errno) bool) bool {
	n, e := r.node(page)
	if e != api.OK {
		yield(nil, e)
		return false
	}
	if !n.isInner() {
		return yield(n, api.OK)
	}
	at, _ := n.place(key)
	for _, x := range n[at:] {
		if page, _ := x.child(); !r.eachLeaf(page, key, yield) {
			return false
		}
	}
	return true
}

// entries ranges over the keys below a page that are not ahead of one, with their values, up to the first error.
func (r reader) entries(page int, key []byte) iter.Seq2[entry, api.Errno] {
	return func(yield func(entry, api.Errno) bool) {
		for n, e := range r.leaves(page, key) {
			if e != api.OK {
				yield(entry{}, e)
				return
			}
			at, _ := n.place(key)
			for _, x := range n[at:] {
				if !yield(x, api.OK) {
					return
				}
			}
		}
	}
}

// value tells the value that an entry holds.
func (r reader) value(x entry) ([]byte, api.Errno) {
	if v, is := x.holds.(near); is {
		return append([]byte(nil), v...), api.OK
	}
	value := []byte{}
	for link, e := range r.links(x) {
		if e != api.OK {
			return nil, e
		}
		value = append(value, link.piece...)
	}
	return value, api.OK
}

// link is a page of a far value.
type link struct {
	page  int
	piece []byte
}

// links ranges over the pages of the value that an entry holds, up to the first error; there are none, unless it is far.
func (r reader) links(x entry) iter.Seq2[link, api.Errno] {
	return func(yield func(link, api.Errno) bool) {
		v, _ := x.holds.(far)
		for page, left := v.first, v.length; left > 0; {
			load, e := r.Load(page)
			if e != api.OK {
				yield(link{}, e)
				return
			}
			c := little.Cut(load)
			next := c.Number(linkBytes)
			piece := c.Bytes(min(left, len(load)-linkBytes))
			if !yield(link{page, piece}, api.OK) {
				return
			}
			page = next
			left -= len(piece)
		}
	}
}

// linked tells the pages of the value that an entry holds.
func (r reader) linked(x entry) ([]int, api.Errno) {
	var pages []int
	for link, e := range r.links(x) {
		if e != api.OK {
			return nil, e
		}
		pages = append(pages, link.page)
	}
	return pages, api.OK
}

// pages tells all pages below a page, and that one behind them.
func (r reader) pages(page int) ([]int, api.Errno) {
	n, e := r.node(page)
	if e != api.OK {
		return nil, e
	}
	var pages []int
	for _, x := range n {
		more, e := r.held(x)
		if e != api.OK {
			return nil, e
		}
		pages = append(pages, more...)
	}
	return append(pages, page), api.OK
}

// held tells all pages that an entry leads to.
func (r reader) held(x entry) ([]int, api.Errno) {
	if page, is := x.child(); is {
		return r.pages(page)
	}
	return r.linked(x)
}
