package pool

import "waywiser/little"

// How many roots there are, and how great one may be.
const (
	rootCount = 8
	maxRoot   = 1<<31 - 1
)

// figures are what page 0 tells.
type figures struct {
	most  int // the greatest page that was ever taken
	top   int // the page that is free and was given back last; 0, if none is
	roots [rootCount]int
}

// figuresOf reads them out of a load.
func figuresOf(load []byte) figures {
	var f figures
	for i, n := range f.row() {
		*n = little.Take(load[i*little.Bytes:])
	}
	return f
}

// bytes are so many that tell them.
func (f figures) bytes(size int) []byte {
	b := make([]byte, size)
	for i, n := range f.row() {
		little.Put(b[i*little.Bytes:], *n)
	}
	return b
}

// row leads to them, in the order in which they are told.
func (f *figures) row() []*int {
	l := []*int{&f.most, &f.top}
	for k := range f.roots {
		l = append(l, &f.roots[k])
	}
	return l
}

// may: may a pool of so many pages have them?
func (f *figures) may(pages int) bool {
	for _, n := range f.roots {
		if !isRoot(n) {
			return false
		}
	}
	return f.most >= 0 && f.most < pages
}

// state is what a pool knows beside its pages' loads.
type state struct {
	figures
	free map[int]int // of each page that was given back, and not taken since, the one that was top ahead of it
}

// taken tells how many pages are.
func (s *state) taken() int { return s.most - len(s.free) }

// isTaken: is a page?
func (s *state) isTaken(page int) bool {
	_, free := s.free[page]
	return page >= 1 && page <= s.most && !free
}

// take takes a page.
func (s *state) take() int {
	page := s.top
	if page == 0 {
		s.most++
		return s.most
	}
	s.top = s.free[page]
	delete(s.free, page)
	return page
}

// give gives a page back, and tells the one that was top ahead of it.
func (s *state) give(page int) int {
	below := s.top
	s.free[page] = below
	s.top = page
	return below
}

// follow makes a state like another one, from which it differs in no other pages than those.
func (s *state) follow(other *state, pages map[int][]byte) {
	s.figures = other.figures
	for page := range pages {
		if below, free := other.free[page]; free {
			s.free[page] = below
		} else {
			delete(s.free, page)
		}
	}
}

// isRoot: may a root be that?
func isRoot(n int) bool { return n >= 0 && n <= maxRoot }
