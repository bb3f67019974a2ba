package btree

import (
	"bytes"
	"fmt"
	"math/rand"
	"slices"
	"strings"
	"testing"

	"waywiser/api"
	"waywiser/disk"
	"waywiser/pool"
)

// shape is what all pages of a tree have to be.
type shape struct {
	t     *testing.T
	r     reader
	room  int
	pages int
	deep  int // how many pages a way has
}

// check looks at all pages below one, whose keys are from one to another (to the end, if that is nil).
func (s *shape) check(page, deep int, from, to []byte) {
	n, e := s.r.node(page)
	if e != api.OK || n.size() != len(n.bytes()) || n.size() > s.room {
		s.t.Fatalf("page %d: error %d, %d bytes", page, e, n.size())
	}
	s.pages++
	for i, x := range n {
		if (i > 0 && bytes.Compare(n[i-1].key, x.key) >= 0) || (!n.isInner() && bytes.Compare(x.key, from) < 0) || (to != nil && bytes.Compare(x.key, to) >= 0) {
			s.t.Fatalf("page %d: key %q, of those from %q to %q", page, x.key, from, to)
		}
		if i == 0 && n.isInner() && len(x.key) > 0 {
			s.t.Fatalf("page %d: its first child has a key", page)
		}
	}
	if !n.isInner() {
		s.leaf(n, page, deep)
		return
	}
	for i, x := range n {
		low, high := from, to
		if i > 0 {
			low = x.key
		}
		if i+1 < len(n) {
			high = n[i+1].key
		}
		below, _ := x.child()
		s.check(below, deep+1, low, high)
	}
}

// leaf looks at a leaf.
func (s *shape) leaf(n node, page, deep int) {
	if len(n) == 0 && deep > 1 {
		s.t.Fatalf("page %d: a leaf without keys", page)
	}
	if s.deep == 0 {
		s.deep = deep
	}
	if s.deep != deep {
		s.t.Fatalf("page %d: a way of %d pages, beside one of %d", page, deep, s.deep)
	}
	for _, x := range n {
		pages, e := s.r.linked(x)
		if e != api.OK {
			s.t.Fatalf("page %d: error %d", page, e)
		}
		s.pages += len(pages)
	}
}

// checked looks at a tree that is the only one of its pool.
func checked(t *testing.T, x *Tree) {
	t.Helper()
	s := shape{t: t, r: x.reader(), room: x.pool.Room()}
	s.check(x.root, 1, nil, nil)
	if h, e := x.Height(); h != s.deep || e != api.OK {
		t.Fatalf("Height: %d, %d; want %d", h, e, s.deep)
	}
	if s.pages != x.pool.Taken() {
		t.Fatalf("%d pages are the tree's, %d are taken", s.pages, x.pool.Taken())
	}
	root, _ := x.reader().node(x.root)
	if root.isInner() && len(root) == 1 {
		t.Fatal("the root has one child")
	}
}

// TestShape looks at all pages behind each change, while trees grow and shrink by chance.
func TestShape(t *testing.T) { // P13.4
	r := rand.New(rand.NewSource(1))
	for turn := range 12 {
		p, _ := pool.Format(disk.New(4000, 512))
		x, _ := Make(p)
		var keys []string
		for part := range 10 {
			up := part%2 == 0
			for range 60 {
				if up == (r.Intn(8) > 0) {
					k := strings.Repeat("k", r.Intn(2)*61) + string([]byte{byte(r.Intn(256)), byte(r.Intn(3)), byte(turn)})
					if e := x.Put([]byte(k), make([]byte, r.Intn(4)*r.Intn(150))); e != api.OK {
						t.Fatalf("Put: %d", e)
					}
					if !slices.Contains(keys, k) {
						keys = append(keys, k)
					}
				} else if len(keys) > 0 {
					i := r.Intn(len(keys))
					if e := x.Drop([]byte(keys[i])); e != api.OK {
						t.Fatalf("Drop: %d", e)
					}
					keys = slices.Delete(keys, i, i+1)
				}
				checked(t, x)
			}
		}
		slices.Sort(keys) // from one end on: pages with one child alone come to be
		for _, k := range keys {
			if e := x.Drop([]byte(k)); e != api.OK {
				t.Fatalf("Drop: %d", e)
			}
			checked(t, x)
		}
		if p.Taken() != 1 {
			t.Fatalf("%d pages are taken", p.Taken())
		}
	}
}

// TestLongWays drops rows of long keys, so that pages come to be whose only child has no neighbour, which ends all the same.
func TestLongWays(t *testing.T) { // P13.4
	r := rand.New(rand.NewSource(5))
	for range 40 {
		p, _ := pool.Format(disk.New(4000, 512))
		x, _ := Make(p)
		var keys []string
		for _, i := range r.Perm(100 + r.Intn(150)) {
			k := strings.Repeat("k", MaxTreeKey-1) + string([]byte{byte(i)})
			if e := x.Put([]byte(k), make([]byte, 100)); e != api.OK {
				t.Fatalf("Put: %d", e)
			}
			keys = append(keys, k)
		}
		slices.Sort(keys)
		for len(keys) > 0 {
			from := r.Intn(len(keys))
			to := min(len(keys), from+1+r.Intn(40))
			for _, k := range keys[from:to] {
				if e := x.Drop([]byte(k)); e != api.OK {
					t.Fatalf("Drop: %d", e)
				}
				checked(t, x)
			}
			keys = slices.Delete(keys, from, to)
		}
		if p.Taken() != 1 {
			t.Fatalf("%d pages are taken", p.Taken())
		}
	}
}

// TestFewPages: what is left of many keys stands on few pages, from whichever end on the others were dropped.
func TestFewPages(t *testing.T) { // P13.4
	for _, back := range []bool{false, true} {
		p, _ := pool.Format(disk.New(4000, 512))
		x, _ := Make(p)
		r := rand.New(rand.NewSource(6))
		for _, i := range r.Perm(2000) {
			x.Put([]byte(fmt.Sprintf("%04d", i)), make([]byte, 20))
		}
		for i := range 2000 {
			if back {
				i = 1999 - i
			}
			if i%40 != 0 {
				x.Drop([]byte(fmt.Sprintf("%04d", i)))
			}
		}
		checked(t, x)
		if keys, e := x.Keys(nil, nil, 99); len(keys) != 50 || e != api.OK || p.Taken() > 10 {
			t.Errorf("from the end: %t: %d keys, %d pages", back, len(keys), p.Taken())
		}
	}
}

// TestKeysInOrder: keys that come in order fill the leaves.
func TestKeysInOrder(t *testing.T) { // P13.4
	p, _ := pool.Format(disk.New(4000, 512))
	x, _ := Make(p)
	size := 0
	for i := range 2000 {
		k := []byte(fmt.Sprintf("%04d", i))
		if e := x.Put(k, make([]byte, 20)); e != api.OK {
			t.Fatalf("Put: %d", e)
		}
		size += entry{k, near(make([]byte, 20))}.size()
		if i%100 == 0 {
			checked(t, x)
		}
	}
	checked(t, x)
	if full := size / p.Room(); p.Taken() > full+full/5 {
		t.Errorf("%d pages, of which %d would be full", p.Taken(), full)
	}
}

// TestJustRoom fills a page to its last byte, and one more; what comes to have room on one page again goes there.
func TestJustRoom(t *testing.T) { // P13.4
	p, _ := pool.Format(disk.New(100, 512))
	x, _ := Make(p)
	high := func(wants int) {
		t.Helper()
		checked(t, x)
		if h, e := x.Height(); h != wants || e != api.OK {
			t.Fatalf("Height: %d, %d; want %d", h, e, wants)
		}
	}
	put := func(key string, size int) {
		t.Helper()
		if e := x.Put([]byte(key), make([]byte, size-keyBytes-len(key)-lengthBytes)); e != api.OK {
			t.Fatalf("Put: %d", e)
		}
	}
	left := p.Room() - aheadBytes
	put("a", 100)
	put("b", 200)
	put("c", left-300)
	high(1)
	put("c", left-299)
	high(2)
	put("d", 100)
	for _, k := range []string{"d", "a"} {
		x.Drop([]byte(k))
	}
	high(1)
	put("a", 100)
	high(2)
	put("b", 199) // it has room, but only what is dropped lets pages be looked at anew
	put("e", 50)
	high(2)
	x.Drop([]byte("e"))
	high(1)
}

// TestGreatEntries puts between two entries another one, all of about the most that stands on a page beside others.
func TestGreatEntries(t *testing.T) { // P13.2
	for _, size := range []int{512, 513, 514, 515, 4096} {
		p, _ := pool.Format(disk.New(400, size))
		half := p.Room()/2 - 6
		for beside := half - 4; beside <= half+4; beside++ {
			for length := half - 4; length <= half+4; length++ {
				x, _ := Make(p)
				for _, k := range []string{"a", "z", "m"} {
					n := beside
					if k == "m" {
						n = length
					}
					if e := x.Put([]byte(k), make([]byte, n)); e != api.OK {
						t.Fatalf("Put of %d bytes beside %d: %d", n, beside, e)
					}
					checked(t, x)
				}
				x.Free()
			}
		}
	}
}

// TestThereAndBack writes and reads pages of all kinds.
func TestThereAndBack(t *testing.T) {
	long := bytes.Repeat([]byte{7}, MaxTreeKey)
	for _, n := range []node{
		nil,
		{{nil, near(nil)}},
		{{nil, near(long)}, {long, near(bytes.Repeat(long, 2))}, {[]byte("z"), far{1<<31 - 1, maxValue}}},
		{{nil, child(1)}, {long, child(1<<31 - 1)}},
	} {
		b := n.bytes()
		load := make([]byte, 467)
		copy(load, b)
		back, is := nodeOf(load)
		if !is || len(b) != n.size() || !bytes.Equal(back.bytes(), b) || len(back) != len(n) || back.isInner() != n.isInner() {
			t.Errorf("%v: %v", n, back)
		}
	}
}

// TestParted parts rows so that the heavier side is as light as can be.
func TestParted(t *testing.T) {
	r := rand.New(rand.NewSource(4))
	same := func(n int) int { return n }
	sum := func(row []int) int {
		all := 0
		for _, n := range row {
			all += n
		}
		return all
	}
	for range 2000 {
		row := make([]int, 2+r.Intn(6))
		for i := range row {
			row[i] = 1 + r.Intn(1+r.Intn(50))
		}
		ahead, behind := parted(row, same)
		least := sum(row)
		for at := range row {
			least = min(least, max(sum(row[:at]), sum(row[at:])))
		}
		if len(ahead) == 0 || len(behind) == 0 || !slices.Equal(slices.Concat(ahead, behind), row) || max(sum(ahead), sum(behind)) != least {
			t.Fatalf("%v: %v and %v", row, ahead, behind)
		}
	}
}
