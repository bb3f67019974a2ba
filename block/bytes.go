package block

import (
	"math/bits"

	"waywiser/api"
)

// A number's pieces: how many bits one has, and what its byte has beside them, if another one follows.
const (
	pieceBits = 7
	more      = 1 << pieceBits
)

// packed is a list as bytes.
func packed(l []Posting) []byte {
	b := put(nil, len(l))
	row := -1
	for _, p := range l {
		b = putAbove(b, p.Row, row)
		b = putAbove(b, p.Length, 0)
		b = putAbove(b, len(p.At), 0)
		before := -1
		for _, at := range p.At {
			b = putAbove(b, at, before)
			before = at
		}
		row = p.Row
	}
	return b
}

// putAbove puts behind b by how much a number is above the one ahead, less 1: of a first one, which may be 0, -1 counts as ahead.
func putAbove(b []byte, n, ahead int) []byte { return put(b, n-ahead-1) }

// put puts a number behind b.
func put(b []byte, n int) []byte {
	for piece := max(bits.Len(uint(n))-1, 0) / pieceBits; piece > 0; piece-- {
		b = append(b, byte(n>>(piece*pieceBits))|more)
	}
	return append(b, byte(n)&^more)
}

// fault is why bytes are no list's: the panic that ends their reading.
type fault struct{ why api.Errno }

// reader goes through bytes; rest is what was not read yet.
type reader struct{ rest []byte }

// unpacked takes back the panic of bytes that are none; another panic would be a fault of the program, and goes on.
func unpacked(b []byte) (l []Posting, e api.Errno) {
	defer func() {
		if p := recover(); p != nil {
			l, e = nil, p.(fault).why
		}
	}()
	r := &reader{b}
	row := -1
	for range r.number(Most) {
		p := r.posting(row)
		l = append(l, p)
		row = p.Row
	}
	need(len(r.rest) == 0)
	return l, api.OK
}

// need ends the reading, if something that is needed is not so.
func need(so bool) {
	if !so {
		panic(fault{api.ErrForm})
	}
}

// posting reads one behind that of a row.
func (r *reader) posting(row int) Posting {
	p := Posting{Row: r.above(row, maxRow)}
	p.Length = r.above(0, maxLength)
	places := r.above(0, p.Length)
	need(places <= len(r.rest)) // so that a few bytes don't ask for room for many places
	p.At = make([]int, places)
	before := -1
	for i := range p.At {
		p.At[i] = r.above(before, p.Length-1)
		before = p.At[i]
	}
	return p
}

// above reads a number that is above the one ahead, and not above most.
func (r *reader) above(ahead, most int) int { return ahead + 1 + r.number(most-ahead-1) }

// number reads one that is not above most.
func (r *reader) number(most int) int {
	n := 0
	for {
		need(len(r.rest) > 0)
		c := r.rest[0]
		r.rest = r.rest[1:]
		n = n<<pieceBits | int(c&^more)
		need(n <= most) // asked piece by piece, so that none is too great to be held
		if c < more {
			return n
		}
		need(n > 0) // else it begins with a piece that it could do without
	}
}
