package rank

import (
	"cmp"
	"iter"
	"slices"

	"waywiser/api"
	"waywiser/block"
	"waywiser/index"
)

// wordBits is how many bits a word of bits has.
const wordBits = 64

// phrase is a phrase's terms, with the numbers of their words, by their first ones.
type phrase []index.Term

// phraseOf is that of a text.
func phraseOf(text string) phrase {
	f, _ := index.Terms(text)
	slices.SortFunc(f, func(a, b index.Term) int { return cmp.Compare(a.At[0], b.At[0]) })
	return f
}

// terms are they alone.
func (f phrase) terms() []string {
	var l []string
	for _, t := range f {
		l = append(l, t.Text)
	}
	return l
}

// stands: does it stand in the row at which the cursors through its terms' rows stand?
func (f phrase) stands(l []*cursor) (bool, api.Errno) {
	var from bits // the places of its first word
	for i, t := range f {
		p, e := l[i].posting()
		if e != api.OK {
			return false, e
		}
		places := bitsOf(p)
		if i == 0 {
			from = slices.Clone(places)
		}
		for _, at := range t.At {
			from.follow(places, at-f[0].At[0])
		}
		if !from.any() {
			return false, api.OK
		}
	}
	return true, api.OK
}

// bits are the places of a text at which something stands, a bit each. A long phrase may have a word over and over that a text has over and over: so many places are asked at once.
type bits []uint64

// bitsOf are those at which a term stands.
func bitsOf(p block.Posting) bits {
	b := make(bits, p.Length/wordBits+1)
	for _, at := range p.At {
		b[at/wordBits] |= 1 << (at % wordBits)
	}
	return b
}

// follow keeps the places behind which, by so many, one of others is.
func (b bits) follow(others bits, by int) {
	words, rest := by/wordBits, by%wordBits
	for i := range b {
		b[i] &= others.word(i+words)>>rest | others.word(i+words+1)<<(wordBits-rest)
	}
}

// word tells the bits of a word, which may be behind all.
func (b bits) word(i int) uint64 {
	if i >= len(b) {
		return 0
	}
	return b[i]
}

// any: is there any place?
func (b bits) any() bool {
	return slices.ContainsFunc(b, func(word uint64) bool { return word != 0 })
}

// shared ranges over the rows at which all cursors come to stand, in order, up to the first error.
func shared(l []*cursor) iter.Seq2[int, api.Errno] {
	return func(yield func(int, api.Errno) bool) {
		for row := 0; ; {
			from := row
			for _, c := range l {
				if e := c.seek(row); e != api.OK {
					yield(0, e)
					return
				}
				if c.isBehind() {
					return
				}
				row = c.row()
			}
			if row > from {
				continue
			}
			if !yield(row, api.OK) {
				return
			}
			row++
		}
	}
}
