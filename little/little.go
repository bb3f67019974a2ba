// Package little puts whole numbers into bytes, the lowest byte first, and takes them out again.
package little

// Bytes is how many bytes a number has, so that any has room.
const Bytes = 8

// Put puts a number at the begin of b.
func Put(b []byte, n int) {
	for i := range b[:Bytes] {
		b[i] = byte(n >> (8 * i))
	}
}

// Take tells the number that stands at the begin of b; of bytes that Put did not put there it may be below 0.
func Take(b []byte) int {
	n := 0
	for i, c := range b[:Bytes] {
		n |= int(c) << (8 * i)
	}
	return n
}

// Append puts a number that is not below 0 behind b, in so many bytes.
func Append(b []byte, n, bytes int) []byte {
	for i := range bytes {
		b = append(b, byte(n>>(8*i)))
	}
	return b
}

// Cutter cuts numbers and bytes off the begin of bytes, as long as there are enough.
type Cutter struct {
	rest  []byte
	short bool
}

// Cut is what cuts b, which it shares with the bytes that it hands out.
func Cut(b []byte) *Cutter { return &Cutter{rest: b} }

// Bytes cuts so many bytes off; nothing, if there are not so many.
func (c *Cutter) Bytes(n int) []byte {
	if c.short = c.short || n < 0 || n > len(c.rest); c.short {
		return nil
	}
	b := c.rest[:n:n]
	c.rest = c.rest[n:]
	return b
}

// Number cuts a number of so many bytes off; 0, if there are not so many.
func (c *Cutter) Number(bytes int) int {
	n := 0
	for i, b := range c.Bytes(bytes) {
		n |= int(b) << (8 * i)
	}
	return n
}

// Short: were there once not enough bytes?
func (c *Cutter) Short() bool { return c.short }
