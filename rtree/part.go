package rtree

import (
	"cmp"
	"iter"
	"slices"

	"waywiser/api"
)

// Of a page's entries, each of two parts gets at least so many.
const (
	leastPart = 2
	ofParts   = 5
)

// axes tells by what entries are sorted where they are to be parted.
func axes() []func(api.Rect) int64 {
	return []func(api.Rect) int64{
		func(r api.Rect) int64 { return r.MinX },
		func(r api.Rect) int64 { return r.MaxX },
		func(r api.Rect) int64 { return r.MinY },
		func(r api.Rect) int64 { return r.MaxY },
	}
}

// cut is where a row may be parted: how far both parts reach then, and by how many entries one is greater.
type cut struct {
	both   reach
	uneven int
}

// parted parts entries in two, so that the two reach the least.
func parted(n node) (ahead, behind node) {
	var least cut
	for _, side := range axes() {
		row := sorted(n, func(a, b entry) int {
			return cmp.Or(cmp.Compare(side(a.span().box), side(b.span().box)), compareSpans(a.span(), b.span()))
		})
		for at, c := range cuts(row) {
			if ahead == nil || compareCuts(c, least) < 0 {
				ahead, behind, least = row[:at:at], row[at:], c
			}
		}
	}
	return ahead, behind
}

// cuts ranges over where a row may be parted.
func cuts(row node) iter.Seq2[int, cut] {
	return func(yield func(int, cut) bool) {
		ends := slices.Clone(row)
		slices.Reverse(ends)
		ahead, behind := joined(row), joined(ends)
		least := max(1, len(row)*leastPart/ofParts)
		for at := least; at <= len(row)-least; at++ {
			rest := len(row) - at
			both := ahead[at-1].reach().plus(behind[rest-1].reach())
			if !yield(at, cut{both, max(at-rest, rest-at)}) {
				return
			}
		}
	}
}

// joined tells of each entry the span that holds it and all ahead of it.
func joined(row node) []span {
	var spans []span
	for i, x := range row {
		spans = append(spans, x.span())
		if i > 0 {
			spans[i] = spans[i].join(spans[i-1])
		}
	}
	return spans
}

// compareCuts holds cuts against each other: of those that reach as far, the more even one is the better one.
func compareCuts(a, b cut) int {
	return cmp.Or(compareReach(a.both, b.both), cmp.Compare(a.uneven, b.uneven))
}

// fittest tells which child must reach the least further to hold something as well; of such the one that reaches the least.
func (n node) fittest(s span) int {
	type cost struct{ more, all reach }
	var least cost
	best := 0
	for i, x := range n {
		all := x.span().reach()
		c := cost{x.span().join(s).reach().less(all), all}
		if i == 0 || cmp.Or(compareReach(c.more, least.more), compareReach(c.all, least.all)) < 0 {
			best, least = i, c
		}
	}
	return best
}
