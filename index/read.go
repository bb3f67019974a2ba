package index

import (
	"bytes"

	"waywiser/api"
	"waywiser/block"
	"waywiser/score"
)

// stats tells what is held of all rows.
func (x *Index) stats() (score.Stats, api.Errno) {
	b, e := x.tree.Get(allKey())
	switch e {
	case api.OK:
		return allOf(b)
	case api.ErrNone:
		return score.Stats{}, api.OK
	}
	return score.Stats{}, e
}

// text tells what is held of a row; ErrNone, if it is not there.
func (x *Index) text(row int) (text, api.Errno) {
	b, e := x.tree.Get(rowKey(row))
	switch {
	case e != api.OK:
		return text{}, e
	case len(b) == 0:
		return text{}, api.ErrNone
	}
	return textOf(b)
}

// held tells what is held of a term.
func (x *Index) held(term string) (held, api.Errno) {
	b, e := x.tree.Get(termKey(term))
	switch e {
	case api.OK:
		return heldOf(b)
	case api.ErrNone:
		return held{}, api.OK
	}
	return held{}, e
}

// blockOf tells the block of a term to which a row belongs.
func (x *Index) blockOf(term string, row int) (bounded, api.Errno) {
	b, e := x.ahead(term, row)
	if e != api.ErrNone {
		return b, e
	}
	h, e := x.held(term)
	if e != api.OK {
		return bounded{}, e
	}
	return bounded{list: h.last, last: true}, api.OK
}

// ahead tells that block, if it is ahead of the last one; else ErrNone.
func (x *Index) ahead(term string, row int) (bounded, api.Errno) {
	key, value, e := x.tree.Next(blockKey(term, row))
	if e != api.OK {
		return bounded{}, e
	}
	behind, is := bytes.CutPrefix(key, termKey(term))
	if !is {
		return bounded{}, api.ErrNone
	}
	bound, rest, is := part[int](behind, rowBytes)
	if !is || len(rest) > 0 || !mayRow(bound) {
		return bounded{}, api.ErrForm
	}
	list, e := block.Unpack(value)
	if e != api.OK {
		return bounded{}, e
	}
	return bounded{bound: bound, list: list}, api.OK
}

// each hands out the blocks of a term that are not empty, in order, up to the first error.
func (x *Index) each(term string, take func(list []block.Posting)) api.Errno {
	switch {
	case x == nil:
		return api.ErrArg
	case !May(term):
		return api.OK
	}
	for row := 0; ; {
		b, e := x.blockOf(term, row)
		if e != api.OK {
			return e
		}
		if len(b.list) > 0 {
			take(b.list)
		}
		if b.last {
			return api.OK
		}
		row = b.bound + 1
	}
}
