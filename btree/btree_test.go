package btree_test

import (
	"bytes"
	"fmt"
	"slices"
	"testing"

	"waywiser/api"
	"waywiser/btree"
	"waywiser/disk"
	"waywiser/pool"
)

// The ends that the chapter names.
const (
	maxKey   = 64
	maxValue = 1 << 17
)

func want(t *testing.T, what string, e, wants api.Errno) {
	t.Helper()
	if e != wants {
		t.Fatalf("%s tells %d, not %d", what, e, wants)
	}
}

// formatted is a blank pool on a disk of so many sectors.
func formatted(t *testing.T, sectors, size int) (*pool.Pool, *disk.Disk) {
	t.Helper()
	d := disk.New(sectors, size)
	p, e := pool.Format(d)
	want(t, "Format", e, api.OK)
	return p, d
}

func opened(t *testing.T, d *disk.Disk) *pool.Pool {
	t.Helper()
	p, e := pool.Open(d)
	want(t, "pool.Open", e, api.OK)
	return p
}

// made is an empty tree on a pool.
func made(t *testing.T, p *pool.Pool) *btree.Tree {
	t.Helper()
	x, e := btree.Make(p)
	want(t, "Make", e, api.OK)
	return x
}

func open(t *testing.T, p *pool.Pool, root int) *btree.Tree {
	t.Helper()
	x, e := btree.Open(p, root)
	want(t, "Open", e, api.OK)
	return x
}

func put(t *testing.T, x *btree.Tree, key, value string) {
	t.Helper()
	want(t, "Put", x.Put([]byte(key), []byte(value)), api.OK)
}

func drop(t *testing.T, x *btree.Tree, key string) {
	t.Helper()
	want(t, "Drop", x.Drop([]byte(key)), api.OK)
}

// short tells bytes, if they are not many.
func short(b []byte) string {
	if len(b) > 40 {
		return fmt.Sprintf("%q... (%d)", b[:40], len(b))
	}
	return fmt.Sprintf("%q", b)
}

func wantValue(t *testing.T, x *btree.Tree, key, value string) {
	t.Helper()
	v, e := x.Get([]byte(key))
	if e != api.OK || string(v) != value {
		t.Fatalf("Get(%q): %s, %d; want %s", key, short(v), e, short([]byte(value)))
	}
}

func wantNone(t *testing.T, x *btree.Tree, key string) {
	t.Helper()
	if v, e := x.Get([]byte(key)); v != nil || e != api.ErrNone {
		t.Fatalf("Get(%q): %s, %d", key, short(v), e)
	}
}

// wantFirst holds what Next or After tells against a key and its value.
func wantFirst(t *testing.T, call func(key []byte) (k, v []byte, e api.Errno), from, key, value string) {
	t.Helper()
	k, v, e := call([]byte(from))
	if e != api.OK || string(k) != key || string(v) != value {
		t.Fatalf("behind %q: %q, %s, %d; want %q, %s", from, k, short(v), e, key, short([]byte(value)))
	}
}

func wantNoFirst(t *testing.T, call func(key []byte) (k, v []byte, e api.Errno), from string) {
	t.Helper()
	if k, v, e := call([]byte(from)); k != nil || v != nil || e != api.ErrNone {
		t.Fatalf("behind %q: %q, %s, %d", from, k, short(v), e)
	}
}

func wantKeys(t *testing.T, x *btree.Tree, from, to string, most int, keys ...string) {
	t.Helper()
	l, e := x.Keys([]byte(from), []byte(to), most)
	if e != api.OK || !slices.EqualFunc(l, keys, func(b []byte, s string) bool { return string(b) == s }) {
		t.Fatalf("Keys(%q, %q, %d): %q, %d; want %q", from, to, most, l, e, keys)
	}
}

func wantHeight(t *testing.T, x *btree.Tree, n int) {
	t.Helper()
	if got, e := x.Height(); got != n || e != api.OK {
		t.Fatalf("Height: %d, %d; want %d", got, e, n)
	}
}

func wantTaken(t *testing.T, p *pool.Pool, n int) {
	t.Helper()
	if p.Taken() != n {
		t.Fatalf("%d pages are taken, not %d", p.Taken(), n)
	}
}

// text is so many bytes, which tell where each stands.
func text(n int) string {
	b := make([]byte, n)
	for i := range b {
		b[i] = byte(i ^ i>>8 ^ i>>16)
	}
	return string(b)
}

func TestMake(t *testing.T) { // P13.1
	p, d := formatted(t, 40, 512)
	if x, e := btree.Make(nil); x != nil || e != api.ErrArg {
		t.Errorf("Make(nil): %v, %d", x, e)
	}
	x, y := made(t, p), made(t, p)
	if x.Root() != 1 || y.Root() != 2 || p.Taken() != 2 {
		t.Errorf("roots %d and %d, %d taken", x.Root(), y.Root(), p.Taken())
	}
	for _, x := range []*btree.Tree{x, y} {
		wantKeys(t, x, "", "", 9)
		wantHeight(t, x, 1)
	}
	d.Arm(1)
	want(t, "Commit", p.Commit(), api.ErrDown)
	if x, e := btree.Make(p); x != nil || e != api.ErrState {
		t.Errorf("Make on a dead pool: %v, %d", x, e)
	}
}

// TestMakeOnAFullPool: what a pool that is full can't do takes all back that was not committed, also here.
func TestMakeOnAFullPool(t *testing.T) { // P13.1
	p, _ := formatted(t, 40, 512)
	for range 20 {
		p.Take()
	}
	want(t, "Commit", p.Commit(), api.ErrFull)
	for range 3 {
		p.Take()
	}
	want(t, "Commit", p.Commit(), api.OK)
	for p.Taken() < p.Pages()-1 {
		p.Take()
	}
	if x, e := btree.Make(p); x != nil || e != api.ErrFull {
		t.Errorf("Make: %v, %d", x, e)
	}
	wantTaken(t, p, 3)
}

func TestOpen(t *testing.T) { // P13.1
	p, d := formatted(t, 40, 512)
	x := made(t, p)
	put(t, x, "a", "b")
	if x, e := btree.Open(nil, x.Root()); x != nil || e != api.ErrArg {
		t.Errorf("Open(nil): %v, %d", x, e)
	}
	for _, page := range []int{-1 << 63, -1, 0, 2, 28, 29, 40, 1<<63 - 1} {
		if x, e := btree.Open(p, page); x != nil || e != api.ErrNone {
			t.Errorf("Open(%d): %v, %d", page, x, e)
		}
	}
	y := open(t, p, x.Root())
	wantValue(t, y, "a", "b")
	put(t, y, "a", "c") // two of one root are one tree
	wantValue(t, x, "a", "c")
	if y.Root() != x.Root() {
		t.Errorf("root %d", y.Root())
	}
	want(t, "Commit", p.Commit(), api.OK)
	p = opened(t, d)
	wantValue(t, open(t, p, x.Root()), "a", "c")
}

// TestOpenOfADiskThatIsDown: the page is taken, and the tree tells what can't be done.
func TestOpenOfADiskThatIsDown(t *testing.T) { // P13.1
	p, d := formatted(t, 40, 512)
	root := made(t, p).Root()
	want(t, "Commit", p.Commit(), api.OK)
	want(t, "Checkpoint", p.Checkpoint(), api.OK)
	d.Arm(1)
	d.Flush()
	x := open(t, p, root)
	if v, e := x.Get(nil); v != nil || e != api.ErrDown {
		t.Errorf("Get: %q, %d", v, e)
	}
	if y, e := btree.Open(p, root+1); y != nil || e != api.ErrNone {
		t.Errorf("Open of no page: %v, %d", y, e)
	}
}

func TestKeysAndValues(t *testing.T) { // P13.2
	p, _ := formatted(t, 2000, 512)
	x := made(t, p)
	for _, key := range []string{"", "\x00", "a", text(maxKey)} {
		wantNone(t, x, key)
		want(t, "Drop", x.Drop([]byte(key)), api.ErrNone)
		for _, n := range []int{0, 1, 160, 161, 162, 163, 164, 165, 223, 224, 225, 226, 227, 228, 229, 230, 400, 462, 463, 464, 465, 926, 927, 5000, maxValue - 1, maxValue} {
			put(t, x, key, text(n))
			wantValue(t, x, key, text(n))
			wantKeys(t, x, "", "", 9, key)
		}
		put(t, x, key, "")
		wantValue(t, x, key, "")
		wantTaken(t, p, 1)
		put(t, x, key, text(9000))
		drop(t, x, key)
		wantNone(t, x, key)
		want(t, "Drop once more", x.Drop([]byte(key)), api.ErrNone)
		wantTaken(t, p, 1)
	}
}

func TestTooLong(t *testing.T) { // P13.2
	p, d := formatted(t, 40, 512)
	x := made(t, p)
	put(t, x, text(maxKey), "a")
	long := []byte(text(maxKey + 1))
	check := func() {
		t.Helper()
		if v, e := x.Get(long); v != nil || e != api.ErrLong {
			t.Errorf("Get: %q, %d", v, e)
		}
		want(t, "Put of a key", x.Put(long, nil), api.ErrLong)
		want(t, "Put of a value", x.Put(nil, make([]byte, maxValue+1)), api.ErrLong)
		want(t, "Put of both", x.Put(long, make([]byte, maxValue+1)), api.ErrLong)
		want(t, "Drop", x.Drop(long), api.ErrLong)
	}
	check()
	wantKeys(t, x, "", "", 9, text(maxKey))
	wantTaken(t, p, 1)
	d.Arm(1)
	want(t, "Commit", p.Commit(), api.ErrDown)
	check() // it is named ahead of the pool's errors
}

// TestFromALongKey: where one begins to look, a key may be of any length.
func TestFromALongKey(t *testing.T) { // P13.3
	p, _ := formatted(t, 40, 512)
	x := made(t, p)
	least, next := text(maxKey), text(maxKey-1)+"\xff"
	put(t, x, least, "1")
	put(t, x, next, "2")
	wantFirst(t, x.Next, least+"\x00", next, "2")
	wantFirst(t, x.After, least+"\x00", next, "2")
	wantNoFirst(t, x.Next, next+"\x00")
	wantKeys(t, x, least+"\x00", next+"\x00", 9, next)
	wantKeys(t, x, least, least+text(1000), 9, least)
}

func TestInOrder(t *testing.T) { // P13.3
	p, _ := formatted(t, 40, 512)
	x := made(t, p)
	wantNoFirst(t, x.Next, "")
	wantNoFirst(t, x.After, "")
	for _, key := range []string{"b", "", "ab", "a\x00", "a", "\xff", "a\xff", "\x00"} {
		put(t, x, key, "of "+key)
	}
	keys := []string{"", "\x00", "a", "a\x00", "ab", "a\xff", "b", "\xff"}
	for i, key := range keys {
		wantFirst(t, x.Next, key, key, "of "+key)
		if i > 0 {
			wantFirst(t, x.After, keys[i-1], key, "of "+key)
		}
		wantKeys(t, x, key, "", 99, keys[i:]...)
		for j, to := range keys[1:] {
			wantKeys(t, x, key, to, 99, keys[i:max(i, j+1)]...)
		}
	}
	wantFirst(t, x.Next, "aa", "ab", "of ab")
	wantFirst(t, x.After, "aa", "ab", "of ab")
	wantFirst(t, x.Next, "c", "\xff", "of \xff")
	wantNoFirst(t, x.After, "\xff")
	wantNoFirst(t, x.Next, "\xff\x00")
	wantKeys(t, x, "aa", "ac", 99, "ab")
	wantKeys(t, x, "b", "a", 99)
	wantKeys(t, x, "", "", 1<<63-1, keys...)
	for most := range len(keys) + 2 {
		wantKeys(t, x, "", "", most, keys[:min(most, len(keys))]...)
		wantKeys(t, x, "a", "b", most, keys[2:min(most+2, 6)]...)
	}
	wantKeys(t, x, "", "", -1)
	wantKeys(t, x, "", "", -1<<63)
}

func TestNilTree(t *testing.T) { // P13.3, R1
	var x *btree.Tree
	if x.Root() != 0 {
		t.Error("a nil tree has a root")
	}
	long := make([]byte, maxValue+1)
	v, e := x.Get(long)
	keys, f := x.Keys(nil, nil, 9)
	n, g := x.Height()
	if v != nil || e != api.ErrArg || keys != nil || f != api.ErrArg || n != 0 || g != api.ErrArg {
		t.Errorf("Get %q, %d; Keys %q, %d; Height %d, %d", v, e, keys, f, n, g)
	}
	for what, call := range map[string]func(key []byte) (k, v []byte, e api.Errno){"Next": x.Next, "After": x.After} {
		k, v, e := call(nil)
		if k != nil || v != nil || e != api.ErrArg {
			t.Errorf("%s: %q, %q, %d", what, k, v, e)
		}
	}
	for what, e := range map[string]api.Errno{"Put": x.Put(long, long), "Drop": x.Drop(long), "Free": x.Free()} {
		want(t, what, e, api.ErrArg)
	}
	if _, e := x.Keys(nil, nil, 0); e != api.ErrArg {
		t.Errorf("Keys of none: %d", e)
	}
}

// TestGrowsAndEnds puts in and drops so many keys that there are inner pages of several levels.
func TestGrowsAndEnds(t *testing.T) { // P13.3, P13.4
	p, d := formatted(t, 8000, 512)
	other := made(t, p)
	x := made(t, p)
	root := x.Root()
	const many = 3000
	key := func(i int) string { return fmt.Sprintf("%04d%060d", i, 0) }
	ahead := 1
	for i := range many {
		k := i * 1009 % many
		put(t, x, key(k), text(k%300))
		h, e := x.Height()
		if e != api.OK || h < ahead || h > ahead+1 {
			t.Fatalf("Height: %d, %d behind %d", h, e, ahead)
		}
		ahead = h
		if i%100 == 0 {
			want(t, "Commit", p.Commit(), api.OK)
		}
	}
	want(t, "Commit", p.Commit(), api.OK)
	if ahead < 4 || x.Root() != root {
		t.Errorf("height %d, root %d", ahead, x.Root())
	}
	p = opened(t, d)
	x = open(t, p, root)
	wantHeight(t, x, ahead)
	for i := range many {
		wantValue(t, x, key(i), text(i%300))
	}
	for i := range many {
		drop(t, x, key(i*1013%many))
		if i%100 == 0 {
			want(t, "Commit", p.Commit(), api.OK)
		}
	}
	wantTaken(t, p, 2)
	wantHeight(t, x, 1)
	wantKeys(t, x, "", "", 9)
	put(t, x, "a", "b")
	wantValue(t, x, "a", "b")
	want(t, "Free", x.Free(), api.OK)
	wantTaken(t, p, 1)
	wantKeys(t, open(t, p, other.Root()), "", "", 9)
}

func TestFree(t *testing.T) { // P13.3, P13.4
	p, _ := formatted(t, 4000, 512)
	y := made(t, p)
	put(t, y, "y", text(2000))
	ahead := p.Taken()
	for _, many := range []int{0, 1, 2, 20, 300} {
		for _, length := range []int{0, 100, 230, 231, 470, 1000} {
			x := made(t, p)
			for i := range many {
				put(t, x, fmt.Sprint(i), text(length))
			}
			want(t, "Free", x.Free(), api.OK)
			wantTaken(t, p, ahead)
		}
	}
	wantValue(t, y, "y", text(2000))
	want(t, "Free", y.Free(), api.OK)
	wantTaken(t, p, 0)
}

// TestFull: a Put that the pool has no room for takes all changes back, of other trees, too.
func TestFull(t *testing.T) { // P13.2
	for _, length := range []int{50, 150, 300, 1000, 13000, maxValue} {
		p, d := formatted(t, 40, 512)
		x, y := made(t, p), made(t, p)
		put(t, x, "x", "1")
		put(t, y, "y", text(500))
		want(t, "Commit", p.Commit(), api.OK)
		ahead := p.Taken()
		put(t, y, "y", "")
		put(t, y, "z", "z")
		n := 0
		e := api.OK
		for e == api.OK {
			n++
			e = x.Put([]byte(fmt.Sprintf("%64d", n)), []byte(text(length)))
		}
		want(t, "Put", e, api.ErrFull)
		if n > 300 {
			t.Errorf("%d keys have room", n)
		}
		wantTaken(t, p, ahead)
		for range 2 {
			wantKeys(t, x, "", "", 9, "x")
			wantKeys(t, y, "", "", 9, "y")
			wantValue(t, x, "x", "1")
			wantValue(t, y, "y", text(500))
			want(t, "Commit", p.Commit(), api.OK)
			p = opened(t, d)
			x, y = open(t, p, x.Root()), open(t, p, y.Root())
		}
	}
}

// TestPutAnewHasRoom: the pages of a value that has gone are there for the one that comes.
func TestPutAnewHasRoom(t *testing.T) { // P13.2
	p, _ := formatted(t, 40, 512)
	x := made(t, p)
	n := (p.Pages() - 2) * 463
	for i := range 3 {
		put(t, x, "a", text(n-i))
		wantTaken(t, p, p.Pages()-1)
		wantValue(t, x, "a", text(n-i))
	}
	want(t, "Put", x.Put([]byte("a"), []byte(text(n+1))), api.ErrFull)
}

// TestPoolErrors lets the disk go down, and asks the dead pool's tree while it is down, and behind the crash.
func TestPoolErrors(t *testing.T) { // P13.1, P13.2, P13.3
	for what, call := range map[string]func(x *btree.Tree) api.Errno{
		"Get": func(x *btree.Tree) api.Errno {
			v, e := x.Get([]byte("a"))
			if v != nil {
				t.Error("Get tells a value")
			}
			return e
		},
		"Put":      func(x *btree.Tree) api.Errno { return x.Put([]byte("a"), []byte("b")) },
		"Put anew": func(x *btree.Tree) api.Errno { return x.Put([]byte("new"), []byte("b")) },
		"Drop":     func(x *btree.Tree) api.Errno { return x.Drop([]byte("a")) },
		"Next": func(x *btree.Tree) api.Errno {
			k, v, e := x.Next(nil)
			if k != nil || v != nil {
				t.Error("Next tells a key")
			}
			return e
		},
		"After": func(x *btree.Tree) api.Errno {
			k, v, e := x.After(nil)
			if k != nil || v != nil {
				t.Error("After tells a key")
			}
			return e
		},
		"Keys": func(x *btree.Tree) api.Errno {
			l, e := x.Keys(nil, nil, 9)
			if l != nil {
				t.Error("Keys tells some")
			}
			return e
		},
		"Free": func(x *btree.Tree) api.Errno { return x.Free() },
		"Height": func(x *btree.Tree) api.Errno {
			n, e := x.Height()
			if n != 0 {
				t.Error("Height tells one")
			}
			return e
		},
	} {
		p, d := formatted(t, 100, 512)
		x := made(t, p)
		for i := range 30 {
			put(t, x, fmt.Sprint("a", i), text(40*i))
		}
		put(t, x, "a", text(1000))
		want(t, "Commit", p.Commit(), api.ErrFull) // too much for one group
		x = made(t, p)
		put(t, x, "a", text(1000))
		put(t, x, "b", "b")
		want(t, "Commit", p.Commit(), api.OK)
		want(t, "Checkpoint", p.Checkpoint(), api.OK)
		p.SetRoot(0, 7)
		d.Arm(1)
		d.Flush()
		want(t, what, call(x), api.ErrDown)
		if !p.Dead() {
			t.Errorf("%s: the pool is not dead", what)
		}
		if l, e := x.Keys(nil, nil, 0); len(l) != 0 || e != api.OK {
			t.Errorf("Keys of none: %q, %d", l, e)
		}
		want(t, what, call(x), api.ErrDown)
		d.Crash(nil)
		switch what {
		case "Put", "Put anew", "Drop", "Free":
			want(t, what, call(x), api.ErrState)
		default:
			want(t, "Height", func() api.Errno { _, e := x.Height(); return e }(), api.OK)
		}
		wantValue(t, x, "a", text(1000))
		wantKeys(t, x, "", "", 9, "a", "b")
		want(t, "Drop", x.Drop([]byte("c")), api.ErrNone)
		wantTaken(t, p, 4)
	}
}

// TestDownWithinAValue: the leaf is in the pool's memory, and the disk that has the value's pages is down. Nothing is done by halves.
func TestDownWithinAValue(t *testing.T) { // P13.2, P13.3
	for what, call := range map[string]func(x *btree.Tree) api.Errno{
		"Get":   func(x *btree.Tree) api.Errno { _, e := x.Get([]byte("a")); return e },
		"Put":   func(x *btree.Tree) api.Errno { return x.Put([]byte("a"), []byte("b")) },
		"Drop":  func(x *btree.Tree) api.Errno { return x.Drop([]byte("a")) },
		"Next":  func(x *btree.Tree) api.Errno { _, _, e := x.Next(nil); return e },
		"After": func(x *btree.Tree) api.Errno { _, _, e := x.After(nil); return e },
		"Free":  func(x *btree.Tree) api.Errno { return x.Free() },
	} {
		p, d := formatted(t, 100, 512)
		x := made(t, p)
		put(t, x, "a", text(2000))
		want(t, "Commit", p.Commit(), api.OK)
		want(t, "Checkpoint", p.Checkpoint(), api.OK)
		put(t, x, "b", text(1000))
		taken := p.Taken()
		d.Arm(1)
		d.Flush()
		want(t, what, call(x), api.ErrDown)
		wantTaken(t, p, taken)
		wantKeys(t, x, "", "", 9, "a", "b")
		wantValue(t, x, "b", text(1000))
		d.Crash(nil)
		wantValue(t, x, "a", text(2000))
	}
}

// TestDownBesideAPage: a neighbour of a page is to be looked at, and the disk that has it is down. Nothing is done by halves.
func TestDownBesideAPage(t *testing.T) { // P13.2
	p, d := formatted(t, 100, 512)
	x := made(t, p)
	for _, k := range []string{"a", "b", "c", "d", "e", "f"} {
		put(t, x, k, text(150)) // two have room on a page
	}
	want(t, "Commit", p.Commit(), api.OK)
	want(t, "Checkpoint", p.Checkpoint(), api.OK)
	put(t, x, "g", text(150)) // the last page is parted, so the root is in memory
	put(t, x, "e0", text(1000))
	taken := p.Taken()
	d.Arm(1)
	d.Flush()
	want(t, "Drop", x.Drop([]byte("e0")), api.ErrDown)
	wantTaken(t, p, taken)
	wantKeys(t, x, "e", "", 9, "e", "e0", "f", "g")
	want(t, "Drop once more", x.Drop([]byte("e0")), api.ErrDown)
	d.Crash(nil)
	want(t, "Drop behind the crash", x.Drop([]byte("e0")), api.ErrState)
	wantTaken(t, p, taken)
	wantKeys(t, x, "", "", 9, "a", "b", "c", "d", "e", "e0", "f", "g")
	wantValue(t, x, "e0", text(1000))
}

func TestMemoryIsNotShared(t *testing.T) { // R4
	p, _ := formatted(t, 100, 512)
	x := made(t, p)
	for _, length := range []int{7, 100, 1000} {
		key, value := []byte(text(10)), []byte(text(2*length))
		want(t, "Put", x.Put(key[:5], value[:length]), api.OK)
		put(t, x, text(6), text(3))
		if string(key) != text(10) || string(value) != text(2*length) {
			t.Error("Put changes what was handed in")
		}
		clear(key)
		clear(value)
		for range 2 {
			wantValue(t, x, text(5), text(length))
			wantKeys(t, x, "", "", 9, text(5), text(6))
			for _, call := range []func(key []byte) (k, v []byte, e api.Errno){x.Next, x.After} {
				k, v, _ := call([]byte{})
				spoil(k)
				if string(v) != text(length) {
					t.Error("a key and its value share memory")
				}
				spoil(v)
			}
			v, _ := x.Get([]byte(text(5)))
			spoil(v)
			l, _ := x.Keys(nil, nil, 9)
			spoil(l[0])
			if string(l[1]) != text(6) {
				t.Error("keys share memory")
			}
			spoil(l[1])
			from, to := []byte(text(8)), []byte(text(9))
			x.Keys(from[:1], to[:2], 9)
			x.Next(from[:3])
			x.Get(from[:2])
			x.Drop(from[:2])
			if string(from) != text(8) || string(to) != text(9) {
				t.Error("what was handed in is changed")
			}
		}
	}
}

// spoil changes bytes, and those behind them.
func spoil(b []byte) {
	for i := range b {
		b[i] = 99
	}
	_ = append(b, 9, 9, 9)
}

// TestOfNoTree: what pages hold that are no tree's may be told as anything, but all calls end.
func TestOfNoTree(t *testing.T) { // R1
	loads := [][]byte{
		{1, 1, 0, 0, 1, 0, 0, 0},                                     // leads to itself
		{1, 2, 0, 0, 1, 0, 0, 0, 1, 97, 1, 0, 0, 0},                  // twice
		{1, 1, 0, 0, 2, 0, 0, 0},                                     // to a page that is not taken
		{1, 1, 0, 0, 255, 255, 255, 255},                             // to none
		{1, 0, 0},                                                    // to nothing
		{0, 1, 0, 0, 0, 16, 0, 1, 0, 0, 0},                           // a value that stands on this page
		{0, 1, 0, 0, 255, 255, 255, 1, 0, 0, 0},                      // one that is longer than any
		{0, 2, 0, 1, 97, 0, 0, 0, 1, 97, 0, 0, 0},                    // a key twice
		{0, 2, 0, 1, 98, 0, 0, 0, 1, 97, 0, 0, 0},                    // keys that are in no order
		{0, 255, 255},                                                // too many
		{0, 1, 0, 255},                                               // a key that is too long
		{2, 0, 0},                                                    // of no kind
		bytes.Repeat([]byte{255}, 467), bytes.Repeat([]byte{1}, 467), // all alike
		{1, 1, 0, 1, 98, 1, 0, 0, 0}, // its first child has a key
	}
	for _, load := range loads {
		calls := []func(x *btree.Tree){
			func(x *btree.Tree) { x.Get([]byte("a")) },
			func(x *btree.Tree) { x.Next(nil) },
			func(x *btree.Tree) { x.After([]byte("a")) },
			func(x *btree.Tree) { x.Keys(nil, nil, 1<<62) },
			func(x *btree.Tree) { x.Height() },
			func(x *btree.Tree) { x.Put([]byte("a"), []byte(text(300))) },
			func(x *btree.Tree) { x.Put([]byte("c"), []byte(text(200))) },
			func(x *btree.Tree) { x.Drop([]byte("a")) },
			func(x *btree.Tree) { x.Drop(nil) },
			func(x *btree.Tree) { x.Free() },
		}
		for _, call := range calls {
			p, _ := formatted(t, 40, 512)
			x := made(t, p)
			want(t, "Write", p.Write(x.Root(), load), api.OK)
			want(t, "Commit", p.Commit(), api.OK)
			call(x)
		}
	}
}

// TestExamples are the chapter's.
func TestExamples(t *testing.T) {
	p, _ := formatted(t, 40, 512)
	x := made(t, p)
	for _, key := range []string{"b", "a", "c"} {
		put(t, x, key, "")
	}
	wantKeys(t, x, "", "", 9, "a", "b", "c")
	wantFirst(t, x.After, "a", "b", "")
	if _, e := btree.Open(p, 5); e != api.ErrNone {
		t.Errorf("Open of a page that is not taken: %d", e)
	}
	want(t, "Commit", p.Commit(), api.OK)
}
