// Package phrase tells whether a phrase stands in a text, by where the text has its terms: for all that ask it of texts or of an index.
package phrase

import (
	"cmp"
	"slices"

	"waywiser/api"
	"waywiser/index"
)

// wordBits is how many bits a word of bits has.
const wordBits = 64

// Phrase is a phrase's terms, with the numbers of their words, by their first ones.
type Phrase []index.Term

// Places is where a term stands in a text of a length.
type Places struct {
	At     []int
	Length int
}

// Of is a text's phrase; one without terms, if the text has no words but stop words.
func Of(text string) Phrase {
	f, _ := index.Terms(text)
	slices.SortFunc(f, func(a, b index.Term) int { return cmp.Compare(a.At[0], b.At[0]) })
	return f
}

// Terms are they alone.
func (f Phrase) Terms() []string {
	var l []string
	for _, t := range f {
		l = append(l, t.Text)
	}
	return l
}

// Stands: does a phrase that has terms stand in a text, of which is asked where it has some of them (by their numbers in the phrase)?
func (f Phrase) Stands(places func(i int) (Places, api.Errno)) (bool, api.Errno) {
	var from bits // the places of its first word
	for i, t := range f {
		p, e := places(i)
		if e != api.OK {
			return false, e
		}
		at := bitsOf(p)
		if i == 0 {
			from = slices.Clone(at)
		}
		for _, n := range t.At {
			from.follow(at, n-f[0].At[0])
		}
		if !from.any() {
			return false, api.OK
		}
	}
	return true, api.OK
}

// bits are the places of a text at which something stands, a bit each. A long phrase may have a word over and over that a text has over and over: so many places are asked at once.
type bits []uint64

// bitsOf are those at which a term stands.
func bitsOf(p Places) bits {
	b := make(bits, p.Length/wordBits+1)
	for _, at := range p.At {
		b[at/wordBits] |= 1 << (at % wordBits)
	}
	return b
}

// follow keeps the places behind which, by so many, one of others is.
func (b bits) follow(others bits, by int) {
	words, rest := by/wordBits, by%wordBits
	for i := range b {
		b[i] &= others.word(i+words)>>rest | others.word(i+words+1)<<(wordBits-rest)
	}
}

// word tells the bits of a word, which may be behind all.
func (b bits) word(i int) uint64 {
	if i >= len(b) {
		return 0
	}
	return b[i]
}

// any: is there any place?
func (b bits) any() bool {
	return slices.ContainsFunc(b, func(word uint64) bool { return word != 0 })
}
