package little_test

import (
	"bytes"
	"encoding/binary"
	"math"
	"testing"

	"waywiser/little"
)

func TestThereAndBack(t *testing.T) {
	for _, n := range []int{0, 1, 255, 256, 0x0102030405060708, 1<<31 - 1, 1 << 62, math.MaxInt, -1, math.MinInt} {
		b := bytes.Repeat([]byte{7}, little.Bytes+2)
		little.Put(b, n)
		want := append(binary.LittleEndian.AppendUint64(nil, uint64(n)), 7, 7)
		if !bytes.Equal(b, want) || little.Take(b) != n {
			t.Errorf("%d: %x, and back %d; want %x", n, b, little.Take(b), want)
		}
	}
}

func TestCut(t *testing.T) {
	b := []byte{9}
	for bytes := 1; bytes <= 7; bytes++ {
		b = little.Append(b, 1<<(8*bytes)-2, bytes)
	}
	b = append(b, "rest"...)
	c := little.Cut(b[1:])
	for bytes := 1; bytes <= 7; bytes++ {
		if n := c.Number(bytes); n != 1<<(8*bytes)-2 {
			t.Errorf("%d bytes: %d", bytes, n)
		}
	}
	if got := c.Bytes(3); string(got) != "res" || cap(got) != 3 || c.Short() {
		t.Errorf("Bytes: %q, short: %t", got, c.Short())
	}
	if got := c.Bytes(2); got != nil || !c.Short() {
		t.Errorf("Bytes of too many: %q, short: %t", got, c.Short())
	}
	if n := c.Number(1); n != 0 || !c.Short() {
		t.Errorf("behind that: %d, short: %t", n, c.Short())
	}
	for _, n := range []int{-1, 1} {
		if c := little.Cut(nil); c.Bytes(n) != nil || !c.Short() {
			t.Errorf("Bytes(%d) of nothing: short: %t", n, c.Short())
		}
	}
}
