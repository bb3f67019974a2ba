package rank

import (
	"iter"
	"math"
	"slices"

	"waywiser/api"
	"waywiser/index"
	"waywiser/score"
)

// answers are rows that have at least one of some terms, as cursors through these go through them.
type answers struct {
	stats   score.Stats
	cursors []*cursor
}

// open are those of an index that are not gone through yet.
func open(x *index.Index, terms []string) (*answers, api.Errno) {
	stats, e := x.Stats()
	if e != api.OK {
		return nil, e
	}
	l, e := cursorsOf(x, slices.Compact(slices.Sorted(slices.Values(terms))))
	if e != api.OK {
		return nil, e
	}
	return &answers{stats, l}, api.OK
}

// hits ranges over the rows whose score is above what is asked for by then, in order, up to the first error.
func (a *answers) hits(above func() int) iter.Seq2[Hit, api.Errno] {
	return func(yield func(Hit, api.Errno) bool) {
		to, bound := -1, 0 // of the rows to come none up to that one has a score above the bound
		for {
			row, are := a.next()
			if !are {
				return
			}
			if row > to {
				to, bound = a.ahead(row)
			}
			if bound <= above() {
				if e := a.seek(to + 1); e != api.OK {
					yield(Hit{}, e)
					return
				}
				continue
			}
			h, e := a.take(row)
			if e != api.OK {
				yield(Hit{}, e)
				return
			}
			if h.Score > above() && !yield(h, api.OK) {
				return
			}
		}
	}
}

// next tells the first row that was not gone through yet; false, if there is none.
func (a *answers) next() (int, bool) {
	a.cursors = slices.DeleteFunc(a.cursors, (*cursor).isBehind)
	row := math.MaxInt
	for _, c := range a.cursors {
		row = min(row, c.row())
	}
	return row, len(a.cursors) > 0
}

// ahead tells of the next row, and of those behind it, as long as they have no other terms than it has, in the same blocks: up to which one they are, and what no score of theirs is above.
func (a *answers) ahead(row int) (to, bound int) {
	to = math.MaxInt
	for _, c := range a.cursors {
		if c.row() > row {
			to = min(to, c.row()-1)
			continue
		}
		to = min(to, c.heads[0].Last)
		bound += mostScore(a.stats, c.count, c.heads[0])
	}
	return to, bound
}

// seek leaves out all rows ahead of one.
func (a *answers) seek(row int) api.Errno {
	for _, c := range a.cursors {
		if e := c.seek(row); e != api.OK {
			return e
		}
	}
	return api.OK
}

// take tells the next row with its score, and goes on behind it.
func (a *answers) take(row int) (Hit, api.Errno) {
	h := Hit{Row: row}
	for _, c := range a.cursors {
		if c.row() != row {
			continue
		}
		p, e := c.posting()
		if e != api.OK {
			return Hit{}, e
		}
		h.Score += score.Score(a.stats, c.count, len(p.At), p.Length)
		if e := c.seek(row + 1); e != api.OK {
			return Hit{}, e
		}
	}
	return h, api.OK
}

// mostScore is what no score of a block of a term is above. A share grows with the places and falls with the length, so the most places in the least length have the most. But these may be two rows', and no text's: then, as no text has fewer words than a term has places in it, one of so many places and no other word has the most, but for less than 1 that rounding may take off.
func mostScore(s score.Stats, count int, h index.Head) int {
	if h.Tf <= h.Length {
		return score.Score(s, count, h.Tf, h.Length)
	}
	return score.Weight(s, count) * (score.Share(s, h.Tf, h.Tf) + 1)
}
