package plan

import (
	"waywiser/api"
	"waywiser/geom"
	"waywiser/index"
	"waywiser/rank"
	"waywiser/score"
	"waywiser/shape"
	"waywiser/sheet"
)

// hits are the documents that are asked for, of the rows that are found; without scores.
func (w work) hits(find finder) ([]hit, api.Errno) {
	rows, e := find()
	if e != api.OK {
		return nil, e
	}
	var l []hit
	for _, row := range rows {
		doc, e := w.sheet.Row(row)
		if e != api.OK {
			return nil, e
		}
		if h, is := w.ask.hit(doc); is {
			l = append(l, h)
		}
	}
	return l, api.OK
}

// all are the documents that are asked for, found at a source.
func (w work) all(x source) ([]hit, api.Errno) {
	l, e := w.hits(x.find)
	if e != api.OK {
		return nil, e
	}
	weigh := w.weights
	if x.name == scanPlan {
		weigh = w.weightsOfAll
	}
	return w.scored(l, weigh)
}

// scored are hits with their scores.
func (w work) scored(l []hit, weigh func() (weights, api.Errno)) ([]hit, api.Errno) {
	if w.ask.text == nil || len(w.ask.text.terms) == 0 || len(l) == 0 {
		return l, api.OK
	}
	by, e := weigh()
	if e != api.OK {
		return nil, e
	}
	for i := range l {
		l[i].score = by.score(l[i].said)
	}
	return l, api.OK
}

// weights are those that an index tells, if there is one of the texts that are asked for.
func (w work) weights() (weights, api.Errno) {
	x, e := w.sheet.Text(sheet.Spec{Kind: textKind, Path: w.ask.text.path})
	switch e {
	case api.OK:
		return weightsIn(x, w.ask.text.terms)
	case api.ErrNone:
		return w.weightsOfAll()
	}
	return weights{}, e
}

// weightsIn are those of terms in an index.
func weightsIn(x *index.Index, terms []string) (weights, api.Errno) {
	stats, e := x.Stats()
	if e != api.OK {
		return weights{}, e
	}
	counts := map[string]int{}
	for _, t := range terms {
		n, e := x.Count(t)
		if e != api.OK {
			return weights{}, e
		}
		counts[t] = n
	}
	return weights{stats, counts}, api.OK
}

// weightsOfAll are those that all documents tell.
func (w work) weightsOfAll() (weights, api.Errno) {
	rows, e := w.sheet.Rows()
	if e != api.OK {
		return weights{}, e
	}
	by := weights{score.Stats{}, map[string]int{}}
	for _, row := range rows {
		doc, e := w.sheet.Row(row)
		if e != api.OK {
			return weights{}, e
		}
		s, is := saidIn(doc, w.ask.text.path)
		if !is {
			continue
		}
		by.stats.Texts++
		by.stats.Total += s.length
		for _, t := range w.ask.text.terms {
			by.counts[t] += min(1, len(s.at[t]))
		}
	}
	return by, api.OK
}

// told is how many documents must be known, the first ones, to tell an answer.
func (a *Ask) told() int { return a.skip + a.limit }

// nearest are the documents that are asked for and nearest, as many as are told, and all that are as far away.
func (w work) nearest(x sheet.Spec) ([]hit, api.Errno) {
	var l []hit
	gone := 0 // rows that were looked at
	for most := w.ask.told() + 1; ; most *= 2 {
		rows, e := w.sheet.Near(x, w.ask.near.at, most)
		if e != api.OK {
			return nil, e
		}
		away := uint64(0) // of the last row: all to come are not nearer
		for _, row := range rows[gone:] {
			doc, e := w.sheet.Row(row)
			if e != api.OK {
				return nil, e
			}
			if h, is := w.ask.hit(doc); is {
				l = append(l, h)
			}
			s, _ := shapeAt(doc, x.Path)
			away = geom.Nearest(shape.Box(s), w.ask.near.at)
		}
		if gone = len(rows); gone < most || nearer(l, away) >= w.ask.told() {
			return w.scored(l, w.weights)
		}
	}
}

// nearer tells how many hits are nearer than that.
func nearer(l []hit, away uint64) int {
	n := 0
	for _, h := range l {
		if h.near < away {
			n++
		}
	}
	return n
}

// best are the documents that are asked for and answer best, as many as are told, and all of the same score as the last one: their names, not their rows, tell which of these are first.
func (w work) best(x sheet.Spec) ([]hit, api.Errno) {
	texts, e := w.sheet.Text(x)
	if e != api.OK {
		return nil, e
	}
	k := keeper{work: w, seen: map[int]hit{}, none: map[int]struct{}{}}
	told := w.ask.told()
	for most := told + 1; ; most *= 2 {
		top, e := rank.Top(texts, w.ask.text.terms, most, k.keep)
		if k.fault != api.OK {
			return nil, k.fault
		}
		if e != api.OK {
			return nil, e
		}
		if len(top) < most || top[most-1].Score < top[told-1].Score {
			return k.hits(top), api.OK
		}
	}
}

// keeper tells of rows whether their documents are asked for, and keeps what it was told of them.
type keeper struct {
	work
	seen  map[int]hit
	none  map[int]struct{}
	fault api.Errno // the first one
}

// keep: is a row's document asked for?
func (k *keeper) keep(row int) bool {
	if _, is := k.seen[row]; is {
		return true
	}
	if _, is := k.none[row]; is || k.fault != api.OK {
		return false
	}
	doc, e := k.sheet.Row(row)
	if e != api.OK {
		k.fault = e
		return false
	}
	h, is := k.ask.hit(doc)
	if is {
		k.seen[row] = h
	} else {
		k.none[row] = struct{}{}
	}
	return is
}

// hits are those of the best rows, with their scores.
func (k *keeper) hits(top []rank.Hit) []hit {
	var l []hit
	for _, x := range top {
		h := k.seen[x.Row]
		h.score = x.Score
		l = append(l, h)
	}
	return l
}
