package sheet

import (
	"bytes"
	"iter"
	"math"

	"waywiser/api"
	"waywiser/btree"
	"waywiser/order"
)

// numberBytes is how many bytes a number has in a tree's key.
const numberBytes = 8

// highest are a number's bytes, the highest first, so that they have the order of numbers.
func highest(n uint64) []byte {
	b := make([]byte, numberBytes)
	for i := range b {
		b[i] = byte(n >> (8 * (numberBytes - 1 - i)))
	}
	return b
}

// rowIn is the row whose bytes these are; ErrForm, if they are none's.
func rowIn(b []byte) (int, api.Errno) {
	if len(b) != numberBytes {
		return 0, api.ErrForm
	}
	n := 0
	for _, c := range b {
		n = n<<8 | int(c)
	}
	return n, api.OK
}

// entry is a key of a tree, and its value.
type entry struct{ key, value []byte }

// entries ranges over all that a tree has, in order, up to the first error.
func entries(t *btree.Tree) iter.Seq2[entry, api.Errno] {
	return func(yield func(entry, api.Errno) bool) {
		k, v, e := t.Next(nil)
		for e == api.OK && yield(entry{k, v}, api.OK) {
			var next []byte
			next, v, e = t.After(k)
			if e == api.OK && bytes.Compare(next, k) <= 0 {
				e = api.ErrForm // a row that goes round would not end
			}
			k = next
		}
		if e != api.OK && e != api.ErrNone {
			yield(entry{}, e)
		}
	}
}

// ranged puts behind rows those at the ends of a tree's keys, from the first one that begins as low does, or behind it, to the last one that begins as high does.
func ranged(t *btree.Tree, rows []int, low, high []byte) ([]int, api.Errno) {
	keys, e := t.Keys(low, order.Prefix(high), math.MaxInt)
	if e != api.OK {
		return nil, e
	}
	for _, key := range keys {
		row, e := rowIn(key[max(0, len(key)-numberBytes):])
		if e != api.OK {
			return nil, e
		}
		rows = append(rows, row)
	}
	return rows, api.OK
}
