package rtree

import (
	"cmp"
	"slices"

	"waywiser/api"
	"waywiser/geom"
)

// span is where items are: their boxes within a box, their rows from one to another. The rows keep items apart that are at one place, so that one of many such is found on one way.
type span struct {
	box      api.Rect
	from, to int
}

// join is the least span that holds both.
func (s span) join(other span) span {
	return span{geom.Join(s.box, other.box), min(s.from, other.from), max(s.to, other.to)}
}

// holds: is all of another one within it?
func (s span) holds(other span) bool { return s.join(other) == s }

// reach tells how far it reaches.
func (s span) reach() reach {
	return reach{s.box.MaxX - s.box.MinX + s.box.MaxY - s.box.MinY, s.to - s.from}
}

// compareSpans holds spans against each other: by their rows, those of the same rows by their boxes.
func compareSpans(a, b span) int {
	return cmp.Or(cmp.Compare(a.from, b.from), cmp.Compare(a.to, b.to),
		cmp.Compare(a.box.MinX, b.box.MinX), cmp.Compare(a.box.MinY, b.box.MinY),
		cmp.Compare(a.box.MaxX, b.box.MaxX), cmp.Compare(a.box.MaxY, b.box.MaxY))
}

// reach is how far something reaches: on the plane, in length and breadth together (places in a row have no area), and in rows, which count where the plane is alike.
type reach struct {
	plane int64
	rows  int
}

// plus is how far both reach together.
func (r reach) plus(other reach) reach { return reach{r.plane + other.plane, r.rows + other.rows} }

// less is by how much more it is than another one.
func (r reach) less(other reach) reach { return reach{r.plane - other.plane, r.rows - other.rows} }

// compareReach holds how far something reaches against each other.
func compareReach(a, b reach) int {
	return cmp.Or(cmp.Compare(a.plane, b.plane), cmp.Compare(a.rows, b.rows))
}

// sorted is a row in the order that a closure tells.
func sorted[T any](row []T, compare func(a, b T) int) []T {
	row = slices.Clone(row)
	slices.SortStableFunc(row, compare)
	return row
}
