package rtree

import (
	"slices"

	"waywiser/api"
	"waywiser/little"
)

// How many bytes the parts of a page have: what it is and how many entries it has stand ahead of these. An item has its box and its row; a child has its box, its least and its greatest row, and its page.
const (
	kindBytes  = 1
	countBytes = 2
	aheadBytes = kindBytes + countBytes
	sideBytes  = 4
	boxBytes   = 4 * sideBytes
	rowBytes   = 7
	pageBytes  = 4
	itemBytes  = boxBytes + rowBytes
	childBytes = boxBytes + 2*rowBytes + pageBytes
)

// What a page is.
const (
	leafKind = iota
	innerKind
)

// entry is what stands on a page: an item, or a child.
type entry interface {
	span() span
}

// child is a page, with where all is that it leads to.
type child struct {
	where span
	page  int
}

// span is where an item is.
func (x Item) span() span { return span{x.Box, x.Row, x.Row} }

// span is where a child's items are.
func (c child) span() span { return c.where }

// compareItems holds items against each other, in the chapter's order.
func compareItems(a, b Item) int { return compareSpans(a.span(), b.span()) }

// node is what a page holds: entries that are all items, or all children, in any order.
type node []entry

// nodeOf reads a page's load; false, if it is none's.
func nodeOf(load []byte) (node, bool) {
	c := little.Cut(load)
	kind, count := c.Number(kindBytes), c.Number(countBytes)
	var n node
	for range count {
		box, row := boxOf(c), c.Number(rowBytes)
		if kind == innerKind {
			n = append(n, child{span{box, row, c.Number(rowBytes)}, c.Number(pageBytes)})
		} else {
			n = append(n, Item{box, row})
		}
		if c.Short() {
			return nil, false
		}
	}
	return n, kind <= innerKind && !c.Short()
}

// boxOf reads a box.
func boxOf(c *little.Cutter) api.Rect {
	var sides [4]int64
	for i := range sides {
		sides[i] = int64(c.Number(sideBytes))
	}
	return api.Rect{MinX: sides[0] - api.MaxX, MinY: sides[1] - api.MaxY, MaxX: sides[2] - api.MaxX, MaxY: sides[3] - api.MaxY}
}

// appendBox puts a box behind b: each side by how far it is from the plane's least end, so that it is not below 0.
func appendBox(b []byte, r api.Rect) []byte {
	for _, side := range [4]int64{r.MinX + api.MaxX, r.MinY + api.MaxY, r.MaxX + api.MaxX, r.MaxY + api.MaxY} {
		b = little.Append(b, int(side), sideBytes)
	}
	return b
}

// bytes are a page's load.
func (n node) bytes() []byte {
	kind := leafKind
	if n.isInner() {
		kind = innerKind
	}
	b := little.Append(nil, kind, kindBytes)
	b = little.Append(b, len(n), countBytes)
	for _, x := range n {
		s := x.span()
		b = little.Append(appendBox(b, s.box), s.from, rowBytes)
		if c, is := x.(child); is {
			b = little.Append(b, s.to, rowBytes)
			b = little.Append(b, c.page, pageBytes)
		}
	}
	return b
}

// size tells how many bytes a page's load has.
func (n node) size() int {
	if n.isInner() {
		return aheadBytes + len(n)*childBytes
	}
	return aheadBytes + len(n)*itemBytes
}

// isInner: are there children? A page without entries is a leaf.
func (n node) isInner() bool {
	if len(n) == 0 {
		return false
	}
	_, is := n[0].(child)
	return is
}

// page tells the one to which an entry of an inner page leads.
func (n node) page(at int) int {
	c, _ := n[at].(child)
	return c.page
}

// span is where all entries are, of which there must be one.
func (n node) span() span {
	s := n[0].span()
	for _, x := range n[1:] {
		s = s.join(x.span())
	}
	return s
}

// with is a node in which an entry has the place of another one.
func (n node) with(at int, x entry) node {
	n = slices.Clone(n)
	n[at] = x
	return n
}

// without is a node without one of its entries.
func (n node) without(at int) node { return slices.Concat(n[:at], n[at+1:]) }
