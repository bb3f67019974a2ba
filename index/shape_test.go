package index

import (
	"bytes"
	"fmt"
	"math/rand"
	"slices"
	"strings"
	"testing"

	"waywiser/api"
	"waywiser/block"
	"waywiser/btree"
	"waywiser/disk"
	"waywiser/pool"
	"waywiser/score"
)

// checked looks at all keys of an index: there is one for each thing that is held, and no other one.
func checked(t *testing.T, x *Index, rows map[int]string) {
	t.Helper()
	count := map[string]int{}
	keys := 0
	for row, s := range rows {
		terms, length := Terms(s)
		h, e := x.text(row)
		if e != api.OK || h.length != length || len(h.terms) != len(terms) {
			t.Fatalf("row %d: %v, %d", row, h, e)
		}
		for _, term := range terms {
			count[term.Text]++
		}
		keys++
	}
	if len(rows) > 0 {
		keys++
	}
	for term, n := range count {
		keys += 1 + checkedTerm(t, x, term, n)
	}
	l, e := x.tree.Keys(nil, nil, 1<<62)
	if e != api.OK || len(l) != keys {
		t.Fatalf("%d keys, %d; want %d", len(l), e, keys)
	}
}

// checkedTerm looks at a term's blocks, and tells how many are ahead of the last one.
func checkedTerm(t *testing.T, x *Index, term string, count int) int {
	t.Helper()
	h, e := x.held(term)
	if e != api.OK || h.count != count {
		t.Fatalf("%q: %v, %d; want %d rows", term, h, e, count)
	}
	ahead, blocks, rows := -1, 0, 0
	for row, isLast := 0, false; !isLast; {
		b, e := x.blockOf(term, row)
		if e != api.OK || !fits(b.list) || !b.last && (len(b.list) == 0 || b.bound <= ahead || b.list[len(b.list)-1].Row > b.bound) {
			t.Fatalf("%q: %v, %d behind %d", term, b, e, ahead)
		}
		if len(b.list) > 0 && b.list[0].Row <= ahead {
			t.Fatalf("%q: %v behind %d", term, b, ahead)
		}
		rows += len(b.list)
		if !b.last {
			blocks++
			ahead = b.bound
		}
		row, isLast = b.bound+1, b.last
	}
	if rows != count {
		t.Fatalf("%q: %d rows, not %d", term, rows, count)
	}
	return blocks
}

// TestShape looks at all keys behind each change, while an index grows and shrinks by chance.
func TestShape(t *testing.T) { // P19.2, P19.4
	r := rand.New(rand.NewSource(1))
	for range 5 {
		p, _ := pool.Format(disk.New(4000, 512))
		x, _ := Make(p)
		rows := map[int]string{}
		for part := range 6 {
			for range 40 {
				row := r.Intn(120)
				_, there := rows[row]
				switch {
				case there && (part%2 == 1 || r.Intn(4) == 0):
					if e := x.Drop(row); e != api.OK {
						t.Fatalf("Drop: %d", e)
					}
					delete(rows, row)
				case !there:
					s := strings.Repeat("ship ", r.Intn(6)) + strings.Repeat("boat ", r.Intn(2)*r.Intn(200)) + fmt.Sprint(row%10)
					if e := x.Add(row, s); e != api.OK {
						t.Fatalf("Add: %d", e)
					}
					rows[row] = s
				}
				checked(t, x, rows)
			}
		}
		for row := range rows {
			x.Drop(row)
		}
		checked(t, x, nil)
		if p.Taken() != 1 {
			t.Errorf("%d pages are taken", p.Taken())
		}
	}
}

// TestNumbers: numbers are put in the order of their bytes, and parted as they were put.
func TestNumbers(t *testing.T) {
	numbers := []int{0, 1, 127, 128, 255, 256, 65535, 65536, 1<<24 - 1, 1 << 24, maxRow - 1, maxRow, maxRow + 1, 1<<56 - 1}
	var ahead []byte
	for i, n := range numbers {
		b := put([]byte{9}, rowBytes, n, i)[1:]
		if len(b) != 2*rowBytes || i > 0 && bytes.Compare(ahead, b) >= 0 {
			t.Errorf("%d: %v", n, b)
		}
		m, b, is := part[int](b, rowBytes)
		k, b, are := part[int](b, rowBytes)
		if m != n || k != i || !is || !are || len(b) > 0 {
			t.Errorf("%d: %d, %d", n, m, k)
		}
		ahead = put(nil, rowBytes, n)
	}
	if n, b, is := part[int](make([]byte, 6), rowBytes); n != 0 || b != nil || is {
		t.Error("a number of too few bytes")
	}
	if b := put(nil, 1, ofAll, ofRow, ofTerm); !bytes.Equal(b, []byte{0, 1, 2}) {
		t.Errorf("kinds: %v", b)
	}
}

// TestThereAndBack writes and reads what is held.
func TestThereAndBack(t *testing.T) {
	for _, s := range []score.Stats{{}, {Texts: 1}, {Texts: maxRow + 1, Total: 1 << 52}} {
		if back, e := allOf(allBytes(s)); back != s || e != api.OK {
			t.Errorf("%v: %v, %d", s, back, e)
		}
	}
	for _, x := range []text{{}, {length: 1 << 20}, {5, []string{"a", strings.Repeat("b", maxTerm), "c"}}} {
		if back, e := textOf(x.bytes()); back.length != x.length || !slices.Equal(back.terms, x.terms) || e != api.OK {
			t.Errorf("%v: %v, %d", x, back, e)
		}
	}
	for _, h := range []held{{}, {count: 7}, {1, []block.Posting{{Row: 5, Length: 3, At: []int{2}}}}} {
		if back, e := heldOf(h.bytes()); back.count != h.count || len(back.last) != len(h.last) || e != api.OK {
			t.Errorf("%v: %v, %d", h, back, e)
		}
	}
}

// TestOfNoIndex: what a tree has that is no index may be told as anything, but all calls end.
func TestOfNoIndex(t *testing.T) { // R1
	one := block.Posting{Row: 5, Length: 3, At: []int{0}}
	trees := []map[string][]byte{
		{string(allKey()): nil},
		{string(allKey()): make([]byte, 13)},
		{string(allKey()): make([]byte, 15)},
		{string(allKey()): bytes.Repeat([]byte{255}, 14)},
		{string(rowKey(5)): {1}},
		{string(rowKey(5)): {0, 0, 1, 9, 'a'}},
		{string(rowKey(5)): {0, 0, 1, 0}},
		{string(rowKey(5)): append([]byte{0, 0, 1, 33}, make([]byte, 33)...)},
		{string(rowKey(5)): {0, 0, 1, 1, 'a', 1, 'a'}},
		{string(termKey("a")): nil},
		{string(termKey("a")): {0, 0, 0, 0, 0, 0, 1}},
		{string(termKey("a")): {0, 0, 0, 0, 0, 0, 1, 7}},
		{string(termKey("a")): held{1 << 50, []block.Posting{one}}.bytes()},
		{string(termKey("a")): held{-1, []block.Posting{one}}.bytes()},
		{string(blockKey("a", 9)): nil},
		{string(blockKey("a", 9)): {200}},
		{string(blockKey("a", 9)): packed(nil)},
		{string(blockKey("a", 3)): packed([]block.Posting{one}), string(blockKey("a", 9)): packed([]block.Posting{one})},
		{string(blockKey("a", maxRow)): packed([]block.Posting{one})},
		{string(blockKey("a", maxRow+1)): packed([]block.Posting{one})},
		{string(blockKey("a", 1<<56-1)): packed([]block.Posting{one})},
		{string(blockKey("a", 9)) + "x": packed([]block.Posting{one})},
		{string(blockKey("a", 9)[:9]): packed([]block.Posting{one})},
		{string(rowKey(6)): text{2, []string{"a", "b"}}.bytes()}, // of terms that no row has
	}
	for i, keys := range trees {
		for call := range 8 {
			p, _ := pool.Format(disk.New(60, 512))
			tree, _ := btree.Make(p)
			for k, v := range keys {
				if e := tree.Put([]byte(k), v); e != api.OK {
					t.Fatalf("Put: %d", e)
				}
			}
			x, e := Open(p, tree.Root())
			if e != api.OK {
				t.Fatalf("Open: %d", e)
			}
			switch call {
			case 0:
				x.Stats()
				x.Count("a")
			case 1:
				x.Heads("a")
			case 2:
				x.Postings("a")
			case 3:
				x.Load("a", 5)
			case 4:
				x.Add(5, "a b")
				x.Postings("a")
			case 5:
				x.Drop(5)
				x.Postings("a")
			case 6:
				x.Drop(6)
				x.Postings("b")
			case 7:
				if e := x.Free(); e != api.OK || p.Taken() != 0 {
					t.Errorf("%d: Free: %d", i, e)
				}
			}
		}
	}
}
