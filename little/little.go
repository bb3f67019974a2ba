// Package little puts whole numbers into bytes, the lowest byte first, and takes them out again.
package little

// Bytes is how many bytes a number has, so that any has room.
const Bytes = 8

// Put puts a number at the begin of b.
func Put(b []byte, n int) {
	for i := range b[:Bytes] {
		b[i] = byte(n >> (8 * i))
	}
}

// Take tells the number that stands at the begin of b; of bytes that Put did not put there it may be below 0.
func Take(b []byte) int {
	n := 0
	for i, c := range b[:Bytes] {
		n |= int(c) << (8 * i)
	}
	return n
}
