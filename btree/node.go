package btree

import (
	"bytes"
	"slices"

	"waywiser/little"
)

// How many bytes the parts of a page have: what it is and how many entries it has stand ahead of these; each has its key's length, the key, and a child, or a value's length and the value, or the first page of that.
const (
	kindBytes   = 1
	countBytes  = 2
	aheadBytes  = kindBytes + countBytes
	keyBytes    = 1
	childBytes  = 4
	lengthBytes = 3
)

// What a page is.
const (
	leafKind = iota
	innerKind
)

// entry is a key with what it holds: a child, or a value, which is near or far. The key of a child is not behind any key in it, and behind all keys ahead of it; a page's first child needs none: its key is empty.
type entry struct {
	key   []byte
	holds any
}

// child is a page with keys.
type child int

// near is a value that stands beside its key.
type near []byte

// far is a value that stands on pages of its own.
type far struct{ first, length int }

// node is what a page holds: entries in order, all of children, or all of values.
type node []entry

// nodeOf reads a page's load, which it shares; false, if it is none's.
func nodeOf(load []byte) (node, bool) {
	c := little.Cut(load)
	kind, count := c.Number(kindBytes), c.Number(countBytes)
	var n node
	for range count {
		x := entry{key: c.Bytes(c.Number(keyBytes))}
		if kind == innerKind {
			x.holds = child(c.Number(childBytes))
		} else {
			x.holds = valueOf(c, len(x.key), len(load))
		}
		if c.Short() || len(x.key) > MaxTreeKey {
			return nil, false
		}
		n = append(n, x)
	}
	return n, kind <= innerKind && !c.Short()
}

// valueOf reads a value, as it stands behind so long a key on a page of so much room.
func valueOf(c *little.Cutter, key, room int) any {
	length := c.Number(lengthBytes)
	if isNear(key, length, room) {
		return near(c.Bytes(length))
	}
	return far{c.Number(childBytes), length}
}

// isNear: does a value stand beside its key? At least two entries must have room on a page: then one that has got too many can be parted into two, wherever the great ones stand.
func isNear(key, length, room int) bool {
	return keyBytes+key+lengthBytes+length <= (room-aheadBytes)/2
}

// bytes are a page's load.
func (n node) bytes() []byte {
	kind := leafKind
	if n.isInner() {
		kind = innerKind
	}
	b := little.Append(nil, kind, kindBytes)
	b = little.Append(b, len(n), countBytes)
	for _, x := range n {
		b = append(little.Append(b, len(x.key), keyBytes), x.key...)
		switch h := x.holds.(type) {
		case child:
			b = little.Append(b, int(h), childBytes)
		case near:
			b = append(little.Append(b, len(h), lengthBytes), h...)
		case far:
			b = little.Append(b, h.length, lengthBytes)
			b = little.Append(b, h.first, childBytes)
		}
	}
	return b
}

// size tells how many bytes a page's load has.
func (n node) size() int {
	size := aheadBytes
	for _, x := range n {
		size += x.size()
	}
	return size
}

// size tells how many of them an entry has.
func (x entry) size() int {
	size := keyBytes + len(x.key)
	switch h := x.holds.(type) {
	case child:
		size += childBytes
	case near:
		size += lengthBytes + len(h)
	case far:
		size += lengthBytes + childBytes
	}
	return size
}

// child tells the page that an entry leads to; false, if it holds a value.
func (x entry) child() (int, bool) {
	page, is := x.holds.(child)
	return int(page), is
}

// isInner: are there children? A page without entries is a leaf.
func (n node) isInner() bool {
	if len(n) == 0 {
		return false
	}
	_, is := n[0].child()
	return is
}

// place tells where a key stands, or would stand; of an inner page, which child it belongs to.
func (n node) place(key []byte) (at int, there bool) {
	at, there = slices.BinarySearchFunc(n, key, func(x entry, key []byte) int { return bytes.Compare(x.key, key) })
	if !there && n.isInner() {
		at = max(at-1, 0)
	}
	return at, there
}

// begun is a node that begins with a key, if it has children: as the first ones of a page, none, and as those behind others, the one that parts them from these.
func (n node) begun(key []byte) node {
	if !n.isInner() {
		return n
	}
	return spliced(n, 0, 1, entry{key, n[0].holds})
}

// without is a node without one of its entries.
func (n node) without(at int) node { return node(spliced(n, at, at+1)).begun(nil) }

// spliced is a row in which others take the place of a piece.
func spliced[T any](row []T, from, to int, with ...T) []T {
	return slices.Concat(row[:from], with, row[to:])
}

// parted parts a row of at least two in two, neither of which has more weight than need be.
func parted[T any](row []T, weight func(T) int) (ahead, behind []T) {
	all := 0
	for _, x := range row {
		all += weight(x)
	}
	at, least, sum := 0, all, 0
	for i, x := range row {
		if m := max(sum, all-sum); m < least {
			at, least = i, m
		}
		sum += weight(x)
	}
	return row[:at:at], row[at:]
}
