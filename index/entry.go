package index

import (
	"waywiser/api"
	"waywiser/block"
	"waywiser/score"
)

// How many bytes numbers have: a key's kind; a row, and how many rows or words there are in all; how many words a text has; how many bytes a term has. Behind a term in a key stands a byte that no term has, so that the keys of a term are not among those of another one that it begins.
const (
	kindBytes   = 1
	rowBytes    = 7
	lengthBytes = 3
	termBytes   = 1
	behindTerm  = 0
)

// kind is of what a key is.
type kind int

const (
	ofAll  kind = iota // how many rows there are, and how many words their texts have
	ofRow              // how many words a row's text has, and its terms
	ofTerm             // how many rows have a term, and its last block; with a bound behind the term: a block ahead of that one
)

// text is what is held of a row: how long its text is, and its terms.
type text struct {
	length int
	terms  []string
}

// held is what is held of a term: how many rows have it, and its last block, which may be empty.
type held struct {
	count int
	last  []block.Posting
}

// bounded is a block of a term. Rows belong to the first one whose bound they are not behind; the last one has none.
type bounded struct {
	bound int
	list  []block.Posting
	last  bool
}

// put puts numbers behind b, each in so many bytes, the highest first, so that the bytes have the order of the numbers.
func put[N ~int](b []byte, size int, numbers ...N) []byte {
	for _, n := range numbers {
		for at := range size {
			b = append(b, byte(n>>(8*(size-1-at))))
		}
	}
	return b
}

// part parts a number of so many bytes from what is behind it; false, if there are not so many.
func part[N ~int](b []byte, size int) (n N, behind []byte, is bool) {
	if len(b) < size {
		return 0, nil, false
	}
	for _, c := range b[:size] {
		n = n<<8 | N(c)
	}
	return n, b[size:], true
}

// allKey is the key of what is held of all rows.
func allKey() []byte { return put(nil, kindBytes, ofAll) }

// rowKey is a row's.
func rowKey(row int) []byte { return put(put(nil, kindBytes, ofRow), rowBytes, row) }

// termKey is a term's.
func termKey(term string) []byte {
	return append(append(put(nil, kindBytes, ofTerm), term...), behindTerm)
}

// blockKey is that of a block with a bound.
func blockKey(term string, bound int) []byte { return put(termKey(term), rowBytes, bound) }

// allBytes are those of what is held of all rows.
func allBytes(s score.Stats) []byte { return put(nil, rowBytes, s.Texts, s.Total) }

// allOf reads them.
func allOf(b []byte) (score.Stats, api.Errno) {
	texts, b, is := part[int](b, rowBytes)
	total, b, are := part[int](b, rowBytes)
	if !is || !are || len(b) > 0 {
		return score.Stats{}, api.ErrForm
	}
	return score.Stats{Texts: texts, Total: total}, api.OK
}

// bytes are those of what is held of a row.
func (t text) bytes() []byte {
	b := put(nil, lengthBytes, t.length)
	for _, term := range t.terms {
		b = append(put(b, termBytes, len(term)), term...)
	}
	return b
}

// textOf reads them.
func textOf(b []byte) (text, api.Errno) {
	length, b, is := part[int](b, lengthBytes)
	t := text{length: length}
	for is && len(b) > 0 {
		var size int
		size, b, _ = part[int](b, termBytes)
		if is = size <= len(b) && May(string(b[:size])); is {
			t.terms = append(t.terms, string(b[:size]))
			b = b[size:]
		}
	}
	if !is {
		return text{}, api.ErrForm
	}
	return t, api.OK
}

// bytes are those of what is held of a term.
func (h held) bytes() []byte { return append(put(nil, rowBytes, h.count), packed(h.last)...) }

// heldOf reads them.
func heldOf(b []byte) (held, api.Errno) {
	count, b, is := part[int](b, rowBytes)
	if !is {
		return held{}, api.ErrForm
	}
	last, e := block.Unpack(b)
	if e != api.OK {
		return held{}, e
	}
	return held{count, last}, api.OK
}

// packed is a block's list as bytes; it is a list, as its postings are of texts that may be, and no row comes twice.
func packed(list []block.Posting) []byte {
	b, _ := block.Pack(list)
	return b
}
