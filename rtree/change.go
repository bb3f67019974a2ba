package rtree

import (
	"slices"

	"waywiser/api"
	"waywiser/paged"
)

// Whatever changes a tree reads all that it needs first: a disk that is down lets nothing be done by halves.

// put puts an item in.
func (t *Tree) put(x Item) api.Errno {
	way, e := t.reader().find(t.root, x)
	switch {
	case e != api.OK:
		return e
	case way != nil:
		return api.ErrThere
	}
	way, e = t.reader().place(t.root, x)
	if e != api.OK {
		return e
	}
	leaf := way[len(way)-1]
	return t.grow(way, append(leaf.node, x))
}

// grow writes what the last page of a way holds now, which may be more than there was; where a page has no room for it, it is parted. The page above is told where all is now.
func (t *Tree) grow(way []step, n node) api.Errno {
	last := len(way) - 1
	here := way[last]
	var beside node
	if n.size() > t.pool.Room() {
		n, beside = parted(n)
	}
	if last == 0 && beside != nil {
		return t.rise(n, beside)
	}
	if e := t.pool.Write(here.page, n.bytes()); e != api.OK || last == 0 {
		return e
	}
	above := way[last-1]
	holds := above.node.with(above.at, child{n.span(), here.page})
	if beside != nil {
		x, e := t.placed(beside)
		if e != api.OK {
			return e
		}
		holds = append(holds, x)
	} else if holds[above.at] == above.node[above.at] {
		return api.OK
	}
	return t.grow(way[:last], holds)
}

// placed is a new child that holds something.
func (t *Tree) placed(n node) (child, api.Errno) {
	page, e := paged.Place(t.pool, n.bytes())
	return child{n.span(), page}, e
}

// rise makes the tree one page higher: the two parts of what the root held get a page each.
func (t *Tree) rise(ahead, behind node) api.Errno {
	first, e := t.placed(ahead)
	if e != api.OK {
		return e
	}
	second, e := t.placed(behind)
	if e != api.OK {
		return e
	}
	return t.pool.Write(t.root, node{first, second}.bytes())
}

// drop takes an item away.
func (t *Tree) drop(x Item) api.Errno {
	way, e := t.reader().find(t.root, x)
	switch {
	case e != api.OK:
		return e
	case way == nil:
		return api.ErrNone
	}
	leaf := way[len(way)-1]
	d := paged.Begin(t.pool)
	s := shrinking{reader{d}, d, t.pool.Room()}
	if e := s.shrink(way, leaf.node.without(leaf.at)); e != api.OK {
		return e
	}
	return d.Do()
}

// shrinking is what is to become of the pages of a tree that loses something, as its reader reads them.
type shrinking struct {
	reader
	draft *paged.Draft
	room  int
}

// shrink lets the last page of a way hold something that is less than there was: without entries it goes, and what is few goes on one page with a neighbour's, if one has room.
func (s *shrinking) shrink(way []step, n node) api.Errno {
	last := len(way) - 1
	here := way[last]
	if last == 0 {
		return s.sink(here.page, n)
	}
	above := way[last-1]
	if len(n) == 0 {
		s.draft.Give(here.page)
		return s.shrink(way[:last], above.node.without(above.at))
	}
	beside, both, e := s.together(above, n)
	if e != api.OK {
		return e
	}
	s.draft.Write(here.page, both.bytes())
	holds := above.node.with(above.at, child{both.span(), here.page})
	switch {
	case beside != above.at:
		s.draft.Give(above.node.page(beside))
		holds = holds.without(beside)
	case holds[above.at] == above.node[above.at]:
		return api.OK
	}
	return s.shrink(way[:last], holds)
}

// together tells what a page that is to hold something holds together with a neighbour: the one with which it has to reach the least further, of those that have room. A page that has enough, or no such neighbour, is told to be its own.
func (s *shrinking) together(above step, n node) (beside int, both node, e api.Errno) {
	if n.size()*ofParts >= s.room*leastPart {
		return above.at, n, api.OK
	}
	for _, at := range above.node.neighbours(above.at, n.span()) {
		other, e := s.node(above.node.page(at))
		if e != api.OK {
			return 0, nil, e
		}
		if both := slices.Concat(n, other); both.size() <= s.room {
			return at, both, api.OK
		}
	}
	return above.at, n, api.OK
}

// neighbours tells the entries beside one that is somewhere, those first that reach the least further with it.
func (n node) neighbours(at int, where span) []int {
	var others []int
	for i := range n {
		if i != at {
			others = append(others, i)
		}
	}
	more := func(i int) reach { return n[i].span().join(where).reach().less(n[i].span().reach()) }
	return sorted(others, func(i, j int) int { return compareReach(more(i), more(j)) })
}

// sink lets the root hold something; as long as that is one child alone, what the child holds comes in its place.
func (s *shrinking) sink(root int, n node) api.Errno {
	for len(n) == 1 && n.isInner() {
		page := n.page(0)
		below, e := s.node(page)
		if e != api.OK {
			return e
		}
		s.draft.Give(page)
		n = below
	}
	s.draft.Write(root, n.bytes())
	return api.OK
}
