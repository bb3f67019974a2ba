package plan

import (
	"bytes"
	"cmp"
	"slices"
)

// answer tells the hits that are told, in order.
func (a *Ask) answer(l []hit) []Found {
	inOrder(l, a.orders())
	l = l[min(a.skip, len(l)):]
	l = l[:min(a.limit, len(l))]
	out := make([]Found, 0, len(l))
	for _, h := range l {
		out = append(out, Found{a.shown(h.doc), h.score, h.near})
	}
	return out
}

// orders are the ways to hold hits against one another, one behind the other.
func (a *Ask) orders() []func(x, y hit) int {
	var l []func(x, y hit) int
	for i, b := range a.sort {
		l = append(l, func(x, y hit) int {
			if b.turned {
				x, y = y, x
			}
			return bytes.Compare(x.keys[i], y.keys[i])
		})
	}
	switch {
	case len(l) > 0:
	case a.near != nil:
		l = append(l, func(x, y hit) int { return cmp.Compare(x.near, y.near) })
	case a.text != nil:
		l = append(l, func(x, y hit) int { return cmp.Compare(y.score, x.score) })
	}
	return append(l, func(x, y hit) int { return bytes.Compare(x.name, y.name) })
}

// inOrder puts a list in order: by the first of the ways to hold two against one another by which they are not alike.
func inOrder[T any](l []T, orders []func(x, y T) int) {
	slices.SortFunc(l, func(x, y T) int {
		for _, hold := range orders {
			if sign := hold(x, y); sign != 0 {
				return sign
			}
		}
		return 0
	})
}
