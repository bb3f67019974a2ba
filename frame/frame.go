// Package frame is layer 2, what a sector holds, so that a torn one is found out: see shared/doc/02-frame.md.
package frame

import (
	"slices"

	"waywiser/api"
)

// The ends between which a sector, and a mark, may be.
const (
	minSize = 64
	maxSize = 4096
	maxMark = 1 << 62
)

// How many bytes the parts of a sector have.
const (
	markBytes  = 8
	pairBytes  = 2 * markBytes // a mark, and the same turned
	checkBytes = 4
	aroundLoad = pairBytes + checkBytes + pairBytes
)

const polynomial = 0xEDB88320

// number is what stands in a sector beside its load.
type number interface{ uint32 | uint64 }

// Check tells the CRC-32.
func Check(b []byte) uint32 {
	c := ^uint32(0)
	for i := range len(b) {
		c ^= uint32(b[i])
		for range 8 {
			out := c & 1
			c = c>>1 ^ polynomial&-out // -out is all ones, if the bit that fell out was 1
		}
	}
	return ^c
}

// Room tells how long a load may be.
func Room(size int) int {
	if !fits(size) {
		return 0
	}
	return size - aroundLoad
}

// Build makes a sector.
func Build(size, mark int, load []byte) ([]byte, api.Errno) {
	switch {
	case !fits(size):
		return nil, api.ErrSize
	case mark < 1 || mark > maxMark:
		return nil, api.ErrRange
	case len(load) > Room(size):
		return nil, api.ErrLong
	}
	sector := make([]byte, size)
	checked, check, last := parts(sector)
	putPair(checked, uint64(mark))
	copy(checked[pairBytes:], load)
	put(check, Check(checked))
	putPair(last, uint64(mark))
	return sector, api.OK
}

// Read reads one. The check comes last, since it takes the longest.
func Read(sector []byte) (mark int, load []byte, e api.Errno) {
	if !fits(len(sector)) {
		return 0, nil, api.ErrSize
	}
	checked, check, last := parts(sector)
	m := take[uint64](checked[:markBytes])
	if m < 1 || m > maxMark || !isPair(checked, m) || !isPair(last, m) {
		return 0, nil, api.ErrForm
	}
	if take[uint32](check) != Check(checked) {
		return 0, nil, api.ErrForm
	}
	return int(m), slices.Clone(checked[pairBytes:]), api.OK
}

// fits: may a sector have so many bytes?
func fits(size int) bool { return size >= minSize && size <= maxSize }

// parts cuts a sector into what is checked, the check, and the marks behind it, so that none reaches into the next one.
func parts(sector []byte) (checked, check, last []byte) {
	n := len(sector) - pairBytes - checkBytes
	m := n + checkBytes
	return sector[:n:n], sector[n:m:m], sector[m:]
}

// putPair puts a mark, and the same turned, at the begin of b.
func putPair(b []byte, mark uint64) {
	put(b[:markBytes], mark)
	put(b[markBytes:pairBytes], ^mark)
}

// isPair: do the mark and the same turned stand at the begin of b?
func isPair(b []byte, mark uint64) bool {
	return take[uint64](b[:markBytes]) == mark && take[uint64](b[markBytes:pairBytes]) == ^mark
}

// put fills b with a number's bytes, the lowest first.
func put[N number](b []byte, n N) {
	for i := range len(b) {
		b[i] = byte(n >> (8 * i))
	}
}

// take tells the number whose bytes are b, the lowest first.
func take[N number](b []byte) N {
	var n N
	for i := range len(b) {
		n |= N(b[i]) << (8 * i)
	}
	return n
}
