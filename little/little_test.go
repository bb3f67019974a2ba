package little_test

import (
	"bytes"
	"encoding/binary"
	"math"
	"testing"

	"waywiser/little"
)

func TestThereAndBack(t *testing.T) {
	for _, n := range []int{0, 1, 255, 256, 0x0102030405060708, 1<<31 - 1, 1 << 62, math.MaxInt, -1, math.MinInt} {
		b := bytes.Repeat([]byte{7}, little.Bytes+2)
		little.Put(b, n)
		want := append(binary.LittleEndian.AppendUint64(nil, uint64(n)), 7, 7)
		if !bytes.Equal(b, want) || little.Take(b) != n {
			t.Errorf("%d: %x, and back %d; want %x", n, b, little.Take(b), want)
		}
	}
}
