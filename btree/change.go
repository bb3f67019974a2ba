package btree

import (
	"slices"

	"waywiser/api"
	"waywiser/little"
	"waywiser/paged"
)

// Whatever changes a tree reads all that it needs first: a disk that is down lets nothing be done by halves.

// put gives a key a value.
func (t *Tree) put(key, value []byte) api.Errno {
	r := t.reader()
	way, there, e := r.way(t.root, key)
	if e != api.OK {
		return e
	}
	leaf := way[len(way)-1]
	to := leaf.at
	if there {
		old, e := r.linked(leaf.entry())
		if e != api.OK {
			return e
		}
		if e := paged.Give(t.pool, old); e != api.OK {
			return e
		}
		to++
	}
	holds, e := t.placed(key, value)
	if e != api.OK {
		return e
	}
	return t.grow(way, spliced(leaf.node, leaf.at, to, entry{key, holds}), leaf.at)
}

// placed is what a key holds that has a value; that of a far one is written.
func (t *Tree) placed(key, value []byte) (any, api.Errno) {
	room := t.pool.Room()
	if isNear(len(key), len(value), room) {
		return near(value), api.OK
	}
	next := 0
	for _, piece := range slices.Backward(slices.Collect(slices.Chunk(value, room-linkBytes))) {
		page, e := paged.Place(t.pool, append(little.Append(nil, next, linkBytes), piece...))
		if e != api.OK {
			return nil, e
		}
		next = page
	}
	return far{next, len(value)}, api.OK
}

// grow writes what the last page of a way holds now, which may be more than there was, by an entry that is new there; where a page has no room for it, it is parted.
func (t *Tree) grow(way []step, n node, at int) api.Errno {
	last := len(way) - 1
	if n.size() <= t.pool.Room() {
		return t.pool.Write(way[last].page, n.bytes())
	}
	ahead, behind := parted(n, entry.size)
	if at == len(n)-1 && !n.isInner() { // keys often come in order: then leaves are as full as can be
		ahead, behind = n[:at], n[at:]
	}
	fork := behind[0].key
	to, e := paged.Place(t.pool, node(behind).begun(nil).bytes())
	if e != api.OK {
		return e
	}
	if last == 0 {
		return t.rise(ahead, entry{fork, child(to)})
	}
	if e := t.pool.Write(way[last].page, node(ahead).bytes()); e != api.OK {
		return e
	}
	above := way[last-1]
	at = above.at + 1
	return t.grow(way[:last], spliced(above.node, at, at, entry{fork, child(to)}), at)
}

// rise makes the tree one page higher: what the root holds gets a page of its own, beside another one.
func (t *Tree) rise(n node, beside entry) api.Errno {
	page, e := paged.Place(t.pool, n.bytes())
	if e != api.OK {
		return e
	}
	return t.pool.Write(t.root, node{{nil, child(page)}, beside}.bytes())
}

// drop takes a key away.
func (t *Tree) drop(key []byte) api.Errno {
	d := paged.Begin(t.pool)
	r := reader{d}
	way, there, e := r.way(t.root, key)
	switch {
	case e != api.OK:
		return e
	case !there:
		return api.ErrNone
	}
	leaf := way[len(way)-1]
	old, e := r.linked(leaf.entry())
	if e != api.OK {
		return e
	}
	for _, page := range old {
		d.Give(page)
	}
	s := shrinking{r, d, t.pool.Room()}
	if e := s.shrink(way, leaf.node.without(leaf.at)); e != api.OK {
		return e
	}
	return d.Do()
}

// shrinking is what is to become of the pages of a tree that loses something, as its reader reads them.
type shrinking struct {
	reader
	draft *paged.Draft
	room  int
}

// shrink lets the last page of a way hold something that is less than there was: without entries it goes, and what has room on one page beside a neighbour goes there.
func (s *shrinking) shrink(way []step, n node) api.Errno {
	last := len(way) - 1
	here := way[last]
	if last == 0 {
		return s.sink(here.page, n)
	}
	above := way[last-1]
	if len(n) == 0 {
		s.draft.Give(here.page)
		return s.shrink(way[:last], above.node.without(above.at))
	}
	s.draft.Write(here.page, n.bytes())
	for _, at := range []int{above.at, above.at + 1} {
		joined, e := s.join(above.node, at)
		if e != api.OK {
			return e
		}
		if joined {
			return s.shrink(way[:last], above.node.without(at))
		}
	}
	return api.OK
}

// join puts what a child of a page holds behind what the child ahead of it does, if there is one, and it has room there.
func (s *shrinking) join(above node, at int) (bool, api.Errno) {
	if at == 0 || at == len(above) {
		return false, api.OK
	}
	first, _ := above[at-1].child()
	second, _ := above[at].child()
	ahead, e := s.node(first)
	if e != api.OK {
		return false, e
	}
	behind, e := s.node(second)
	if e != api.OK {
		return false, e
	}
	both := spliced(ahead, len(ahead), len(ahead), behind.begun(above[at].key)...)
	if node(both).size() > s.room {
		return false, api.OK
	}
	s.draft.Write(first, node(both).bytes())
	s.draft.Give(second)
	return true, api.OK
}

// sink lets the root hold something; as long as that is one child alone, what the child holds comes in its place.
func (s *shrinking) sink(root int, n node) api.Errno {
	for len(n) == 1 && n.isInner() {
		page, _ := n[0].child()
		below, e := s.node(page)
		if e != api.OK {
			return e
		}
		s.draft.Give(page)
		n = below
	}
	s.draft.Write(root, n.bytes())
	return api.OK
}
