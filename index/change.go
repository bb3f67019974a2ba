package index

import (
	"cmp"
	"slices"

	"waywiser/api"
	"waywiser/block"
	"waywiser/score"
)

// The most that a block has: postings, and, if it has several, bytes. So many have room beside their key on a page, so that a row that comes or goes changes few pages.
const (
	mostPostings = 8
	mostBytes    = 160
)

// change is what a key is to hold from now on. What is gone holds nothing that counts.
type change struct {
	key, value []byte
	gone       bool
}

// add adds a row's text.
func (x *Index) add(row int, s string) api.Errno {
	switch _, e := x.text(row); e {
	case api.ErrNone:
	case api.OK:
		return api.ErrThere
	default:
		return e
	}
	terms, length := Terms(s)
	l, e := x.counted(1, length)
	if e != api.OK {
		return e
	}
	t := text{length: length}
	for _, term := range terms {
		t.terms = append(t.terms, term.Text)
		p := block.Posting{Row: row, Length: length, At: term.At}
		more, e := x.edited(term.Text, row, 1, func(list []block.Posting) []block.Posting { return with(list, p) })
		if e != api.OK {
			return e
		}
		l = append(l, more...)
	}
	return x.do(append(l, change{key: rowKey(row), value: t.bytes()}))
}

// drop takes a row away.
func (x *Index) drop(row int) api.Errno {
	t, e := x.text(row)
	if e != api.OK {
		return e
	}
	l, e := x.counted(-1, -t.length)
	if e != api.OK {
		return e
	}
	for _, term := range t.terms {
		more, e := x.edited(term, row, -1, func(list []block.Posting) []block.Posting { return without(list, row) })
		if e != api.OK {
			return e
		}
		l = append(l, more...)
	}
	return x.do(append(l, change{key: rowKey(row), gone: true}))
}

// do makes changes. A disk that is down lets nothing be done by halves: the pages on which keys stand, or will, are read ahead of the first change. To drop a key others may have to be read, too: so what is gone is first made to hold nothing, and if its key can't be dropped then, the pool is dead, and nothing that is told hangs on that key.
func (x *Index) do(l []change) api.Errno {
	for _, c := range l {
		if _, e := x.tree.Get(c.key); e != api.OK && e != api.ErrNone {
			return e
		}
	}
	for _, c := range l {
		if e := x.tree.Put(c.key, c.value); e != api.OK {
			return e
		}
	}
	for _, c := range l {
		if c.gone {
			x.tree.Drop(c.key)
		}
	}
	return api.OK
}

// counted tells what becomes of what is held of all rows, if there are so many more, and so many words.
func (x *Index) counted(texts, words int) ([]change, api.Errno) {
	s, e := x.stats()
	if e != api.OK {
		return nil, e
	}
	s = score.Stats{Texts: s.Texts + texts, Total: s.Total + words}
	return []change{{allKey(), allBytes(s), s.Texts == 0}}, api.OK
}

// edited tells what becomes of a term, if the block to which a row belongs is edited, and so many more rows have it. Rows often come in order: then blocks ahead of the last one stay full.
func (x *Index) edited(term string, row, more int, edit func(list []block.Posting) []block.Posting) ([]change, api.Errno) {
	h, e := x.held(term)
	if e != api.OK {
		return nil, e
	}
	h.count += more
	b, e := x.ahead(term, row)
	switch e {
	case api.OK:
		l, rest := parted(term, edit(b.list), func(n int) int { return n / 2 })
		return append(l, b.change(term, rest), h.change(term)), api.OK
	case api.ErrNone:
		l, rest := parted(term, edit(h.last), func(n int) int { return n - 1 })
		h.last = rest
		return append(l, h.change(term)), api.OK
	}
	return nil, e
}

// parted cuts a list, as long as it is too much for a block: what is to be blocks ahead, each bounded by its last row, and the rest.
func parted(term string, list []block.Posting, cut func(n int) int) (ahead []change, rest []block.Posting) {
	if fits(list) {
		return nil, list
	}
	at := cut(len(list))
	ahead, first := parted(term, list[:at], cut)
	b := bounded{bound: first[len(first)-1].Row}
	behind, rest := parted(term, list[at:], cut)
	return slices.Concat(ahead, []change{b.change(term, first)}, behind), rest
}

// fits: may a list be a block?
func fits(list []block.Posting) bool {
	return len(list) <= 1 || len(list) <= mostPostings && len(packed(list)) <= mostBytes
}

// change lets a block have a list.
func (b bounded) change(term string, list []block.Posting) change {
	return change{blockKey(term, b.bound), packed(list), len(list) == 0}
}

// change lets that be what is held of a term.
func (h held) change(term string) change {
	return change{termKey(term), h.bytes(), h.count == 0}
}

// with is a list with one posting more.
func with(list []block.Posting, p block.Posting) []block.Posting {
	at, _ := slices.BinarySearchFunc(list, p.Row, func(q block.Posting, row int) int { return cmp.Compare(q.Row, row) })
	return slices.Insert(list, at, p)
}

// without is one without that of a row.
func without(list []block.Posting, row int) []block.Posting {
	return slices.DeleteFunc(list, func(p block.Posting) bool { return p.Row == row })
}
