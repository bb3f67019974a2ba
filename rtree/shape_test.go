package rtree

import (
	"bytes"
	"math/rand"
	"slices"
	"testing"

	"waywiser/api"
	"waywiser/disk"
	"waywiser/paged"
	"waywiser/pool"
)

// shape is what all pages of a tree have to be.
type shape struct {
	t     *testing.T
	r     reader
	room  int
	pages int
	items int
	deep  int // how many pages a way has
}

// check looks at all pages below one, and tells where its items are.
func (s *shape) check(page, deep int) span {
	n, e := s.r.node(page)
	if e != api.OK || n.size() != len(n.bytes()) || n.size() > s.room {
		s.t.Fatalf("page %d: error %d, %d bytes", page, e, n.size())
	}
	s.pages++
	if len(n) == 0 {
		if deep > 1 {
			s.t.Fatalf("page %d: a page without entries", page)
		}
		s.deep = 1
		return span{}
	}
	if !n.isInner() {
		if s.deep == 0 {
			s.deep = deep
		}
		if s.deep != deep {
			s.t.Fatalf("page %d: a way of %d pages, beside one of %d", page, deep, s.deep)
		}
		s.items += len(n)
		return n.span()
	}
	for at, x := range n {
		if where := s.check(n.page(at), deep+1); where != x.span() {
			s.t.Fatalf("page %d: its items are at %v, not %v", n.page(at), where, x.span())
		}
	}
	return n.span()
}

// checked looks at a tree that is the only one of its pool, and has so many items.
func checked(t *testing.T, x *Tree, items int) {
	t.Helper()
	s := shape{t: t, r: x.reader(), room: x.pool.Room()}
	s.check(x.root, 1)
	if h, e := x.Height(); h != s.deep || e != api.OK {
		t.Fatalf("Height: %d, %d; want %d", h, e, s.deep)
	}
	if s.pages != x.pool.Taken() || s.items != items {
		t.Fatalf("%d pages are the tree's, %d are taken; %d items of %d", s.pages, x.pool.Taken(), s.items, items)
	}
	if root, _ := x.reader().node(x.root); root.isInner() && len(root) == 1 {
		t.Fatal("the root has one child")
	}
}

// blank is an empty tree on a pool of its own.
func blank(t *testing.T, size int) *Tree {
	t.Helper()
	p, _ := pool.Format(disk.New(4000, size))
	x, e := Make(p)
	if e != api.OK {
		t.Fatalf("Make: %d", e)
	}
	return x
}

func put(t *testing.T, x *Tree, i Item) {
	t.Helper()
	if e := x.Put(i); e != api.OK {
		t.Fatalf("Put: %d", e)
	}
}

func drop(t *testing.T, x *Tree, i Item) {
	t.Helper()
	if e := x.Drop(i); e != api.OK {
		t.Fatalf("Drop: %d", e)
	}
}

// TestShape looks at all pages behind each change, while trees grow and shrink by chance.
func TestShape(t *testing.T) { // P15.3
	r := rand.New(rand.NewSource(1))
	for _, side := range []int64{1, 20, 100000, api.MaxY} {
		x := blank(t, 512)
		var items []Item
		for part := range 8 {
			up := part%2 == 0
			for range 150 {
				if up == (r.Intn(8) > 0) {
					a, b := r.Int63n(side), r.Int63n(side)
					i := Item{api.Rect{MinX: -a, MinY: b, MaxX: r.Int63n(side), MaxY: b + r.Int63n(side-b)}, len(items) * part}
					if !slices.Contains(items, i) {
						put(t, x, i)
						items = append(items, i)
					}
				} else if len(items) > 0 {
					at := r.Intn(len(items))
					drop(t, x, items[at])
					items = slices.Delete(items, at, at+1)
				}
				checked(t, x, len(items))
			}
		}
		slices.SortFunc(items, func(a, b Item) int { return int(a.Box.MaxX - b.Box.MaxX) }) // from one side on: pages with one child alone come to be
		for len(items) > 0 {
			drop(t, x, items[0])
			items = items[1:]
			checked(t, x, len(items))
		}
		if x.pool.Taken() != 1 {
			t.Fatalf("%d pages are taken", x.pool.Taken())
		}
	}
}

// grid are items that are places in rows and lines.
func grid(side int64) []Item {
	var items []Item
	for x := range side {
		for y := range side {
			items = append(items, Item{api.Rect{MinX: x * 1000, MinY: y * 1000, MaxX: x * 1000, MaxY: y * 1000}, int(x*y) % 7})
		}
	}
	return items
}

// counting counts how many pages are read.
type counting struct {
	paged.Loader
	pages int
}

func (c *counting) Load(page int) ([]byte, api.Errno) {
	c.pages++
	return c.Loader.Load(page)
}

// TestFewPagesAreRead: what lies in a small window, or near, stands on few pages of many.
func TestFewPagesAreRead(t *testing.T) { // P15.2
	x := blank(t, 512)
	items := grid(60)
	for _, at := range rand.New(rand.NewSource(2)).Perm(len(items)) {
		put(t, x, items[at])
	}
	all, windows, near := 0, 0, 0
	for _, i := range items {
		c := &counting{Loader: paged.Read(x.pool)}
		found, e := reader{c}.overlapping(x.root, i.Box)
		if e != api.OK || !slices.Equal(found, []Item{i}) {
			t.Fatalf("%v: %v, %d", i, found, e)
		}
		windows += c.pages
		c = &counting{Loader: paged.Read(x.pool)}
		for y, e := range (reader{c}).near(x.root, api.Point{X: i.Box.MinX + 400, Y: i.Box.MinY - 300}) {
			if e != api.OK || y != i {
				t.Fatalf("near %v: %v, %d", i, y, e)
			}
			break
		}
		near += c.pages
		all++
	}
	h, _ := x.Height()
	if windows > 3*h*all || near > 3*h*all || x.pool.Taken() < 180 {
		t.Errorf("height %d, %d pages: %d are read for a window, %d for what is near", h, x.pool.Taken(), windows/all, near/all)
	}
}

// TestSamePlaceIsApart: items at one place are kept apart by their rows, so one is found on one way.
func TestSamePlaceIsApart(t *testing.T) { // P15.1
	for _, back := range []bool{false, true} {
		x := blank(t, 512)
		const many = 2000
		for i := range many {
			if back {
				i = many - i
			}
			put(t, x, Item{Row: i})
		}
		checked(t, x, many)
		h, _ := x.Height()
		for i := 1; i < many; i++ {
			c := &counting{Loader: paged.Read(x.pool)}
			way, e := reader{c}.find(x.root, Item{Row: i})
			if e != api.OK || len(way) != h || c.pages != h {
				t.Fatalf("row %d: a way of %d pages, %d are read", i, len(way), c.pages)
			}
		}
		c := &counting{Loader: paged.Read(x.pool)}
		for range (reader{c}).near(x.root, api.Point{}) {
			break
		}
		if c.pages != h {
			t.Errorf("%d pages are read for the nearest", c.pages)
		}
	}
}

// TestFewPages: what is left of many items stands on few pages, from whichever end on the others were dropped.
func TestFewPages(t *testing.T) { // P15.3
	for turn := range 3 {
		x := blank(t, 512)
		items := grid(50)
		r := rand.New(rand.NewSource(6))
		for _, at := range r.Perm(len(items)) {
			put(t, x, items[at])
		}
		full := x.pool.Taken()
		switch turn {
		case 1:
			slices.Reverse(items)
		case 2:
			r.Shuffle(len(items), func(i, j int) { items[i], items[j] = items[j], items[i] })
		}
		left := 0
		for at, i := range items {
			if at%40 == 0 {
				left++
				continue
			}
			drop(t, x, i)
		}
		checked(t, x, left)
		if full > 230 || x.pool.Taken() > 12 {
			t.Errorf("turn %d: %d pages of %d items, %d of %d", turn, full, len(items), x.pool.Taken(), left)
		}
	}
}

// TestJustRoom fills a page to its last entry, and one more.
func TestJustRoom(t *testing.T) { // P15.1
	for _, size := range []int{512, 700, 4096} {
		x := blank(t, size)
		most := (x.pool.Room() - aheadBytes) / itemBytes
		for i := range most {
			put(t, x, Item{Row: i})
			checked(t, x, i+1)
		}
		if x.pool.Taken() != 1 {
			t.Errorf("%d pages are taken", x.pool.Taken())
		}
		put(t, x, Item{Row: most})
		checked(t, x, most+1)
		if h, _ := x.Height(); h != 2 || x.pool.Taken() != 3 {
			t.Errorf("height %d, %d pages are taken", h, x.pool.Taken())
		}
		for i := range most + 1 {
			drop(t, x, Item{Row: i})
			checked(t, x, most-i)
		}
	}
}

// TestThereAndBack writes and reads pages of all kinds.
func TestThereAndBack(t *testing.T) {
	whole := api.Rect{MinX: -api.MaxX, MinY: -api.MaxY, MaxX: api.MaxX, MaxY: api.MaxY}
	some := api.Rect{MinX: -1, MinY: 2, MaxX: 3, MaxY: 4}
	for _, n := range []node{
		nil,
		{Item{}},
		{Item{whole, maxRow}, Item{some, 0x1234567890ABCD}, Item{some, 0}},
		{child{span{whole, 0, maxRow}, 1}, child{span{some, 1, 0x1234567890ABCD}, 1<<31 - 1}},
	} {
		b := n.bytes()
		load := make([]byte, 467)
		copy(load, b)
		back, is := nodeOf(load)
		if !is || len(b) != n.size() || !slices.Equal(back, n) || !bytes.Equal(back.bytes(), b) || back.isInner() != n.isInner() {
			t.Errorf("%v: %v", n, back)
		}
		if _, is := nodeOf(b[:len(b)-1]); is {
			t.Errorf("%v is read without its last byte", n)
		}
	}
}

// sides are those of a box.
func sides() []func(r api.Rect) int64 {
	return []func(r api.Rect) int64{
		func(r api.Rect) int64 { return r.MaxY }, func(r api.Rect) int64 { return r.MaxX },
		func(r api.Rect) int64 { return r.MinY }, func(r api.Rect) int64 { return r.MinX },
	}
}

// TestParted parts rows by chance: neither part is small, nothing is lost, and no cut by an axis would reach less.
func TestParted(t *testing.T) {
	r := rand.New(rand.NewSource(4))
	for range 2000 {
		var n node
		for i := range 14 + r.Intn(8) {
			a, b := r.Int63n(20), r.Int63n(20)
			n = append(n, Item{api.Rect{MinX: a, MinY: b, MaxX: a + r.Int63n(25), MaxY: b + r.Int63n(25)}, i})
		}
		ahead, behind := parted(n)
		least := len(n) * 2 / 5
		both := append(slices.Clone(ahead), behind...)
		for _, x := range n {
			if !slices.Contains(both, x) {
				t.Fatalf("%v is lost", x)
			}
		}
		if len(both) != len(n) || len(ahead) < least || len(behind) < least {
			t.Fatalf("%d and %d of %d", len(ahead), len(behind), len(n))
		}
		reached := ahead.span().reach().plus(behind.span().reach())
		for _, side := range sides() {
			row := node(sorted(n, func(a, b entry) int { return int(side(a.span().box) - side(b.span().box)) }))
			for at := least; at <= len(n)-least; at++ {
				other := row[:at].span().reach().plus(row[at:].span().reach())
				if other.plane < reached.plane && !tied(row, at, side) {
					t.Fatalf("%v and %v reach %v; %v would", ahead, behind, reached, other)
				}
			}
		}
	}
}

// tied: are the entries about a cut alike by an axis? Then their rows tell which is ahead.
func tied(row node, at int, side func(api.Rect) int64) bool {
	return side(row[at-1].span().box) == side(row[at].span().box)
}

// TestPartedIsPlain parts what falls in two at once.
func TestPartedIsPlain(t *testing.T) {
	one := func(x, y int64, row int) entry {
		return Item{api.Rect{MinX: x, MinY: y, MaxX: x, MaxY: y}, row}
	}
	var left, right, low, high, mixed node
	for i := range 10 {
		left, right = append(left, one(0, int64(i), 2*i)), append(right, one(100, int64(i), 2*i+1))
		low, high = append(low, one(int64(i), 0, 2*i)), append(high, one(int64(i), 100, 2*i+1))
		mixed = append(mixed, one(0, 0, 9-i), one(0, 0, 10+i))
	}
	for _, pair := range [][2]node{{left, right}, {low, high}} {
		var n node
		for i := range pair[0] {
			n = append(n, pair[1][i], pair[0][i])
		}
		ahead, behind := parted(n)
		if ahead.span() != pair[0].span() || behind.span() != pair[1].span() {
			t.Errorf("%v and %v", ahead, behind)
		}
	}
	ahead, behind := parted(mixed)
	if ahead.span() != (span{to: 9}) || behind.span() != (span{from: 10, to: 19}) {
		t.Errorf("at one place: %v and %v", ahead, behind)
	}
}

// TestNeighbours: those come first that reach the least further with what is somewhere.
func TestNeighbours(t *testing.T) {
	var n node
	for _, x := range []int64{50, 10, 90, 0, 30, 10} {
		n = append(n, child{span{api.Rect{MinX: x, MaxX: x + 5}, 0, 9}, 7})
	}
	n[5] = child{span{api.Rect{MinX: 10, MaxX: 15}, 2, 7}, 7} // has to reach further by its rows
	if got := n.neighbours(3, span{api.Rect{}, 0, 9}); !slices.Equal(got, []int{1, 5, 4, 0, 2}) {
		t.Errorf("neighbours: %v", got)
	}
	if got := n[:1].neighbours(0, span{}); len(got) != 0 {
		t.Errorf("neighbours of the only one: %v", got)
	}
}

// placed puts a page that holds something onto a tree's pool.
func placed(t *testing.T, x *Tree, n node) child {
	t.Helper()
	c, e := x.placed(n)
	if e != api.OK {
		t.Fatalf("placed: %d", e)
	}
	return c
}

// full is a child with as many children, or items, as have room, so many pages high, of rows from one on.
func full(t *testing.T, x *Tree, high, row int) child {
	t.Helper()
	var n node
	if high == 1 {
		for len(n) < (x.pool.Room()-aheadBytes)/itemBytes {
			n = append(n, Item{Row: row + len(n)})
		}
		return placed(t, x, n)
	}
	for len(n) < (x.pool.Room()-aheadBytes)/childBytes {
		n = append(n, full(t, x, high-1, row))
		row = n.span().to + 1
	}
	return placed(t, x, n)
}

// TestEmptyBesideFull: a page whose neighbours have no room for what is left on it goes with its last item, and so does the page above that has no other one.
func TestEmptyBesideFull(t *testing.T) { // P15.3
	for high := 1; high <= 3; high++ {
		for _, many := range []int{1, 2} {
			x := blank(t, 512)
			var last []Item
			var few node
			for i := range many {
				last = append(last, Item{Row: maxRow - i})
				few = append(few, last[i])
			}
			thin := placed(t, x, few)
			for range high - 1 {
				thin = placed(t, x, node{thin})
			}
			beside := full(t, x, high, 0)
			root := node{thin, beside}
			if e := x.pool.Write(x.root, root.bytes()); e != api.OK {
				t.Fatalf("Write: %d", e)
			}
			items := beside.where.to + 1
			checked(t, x, items+many)
			taken := x.pool.Taken()
			for i := range many {
				drop(t, x, last[i])
				checked(t, x, items+many-i-1)
			}
			if h, e := x.Height(); h != high || e != api.OK || x.pool.Taken() != taken-high-1 {
				t.Errorf("height %d, %d; %d pages of %d", h, e, x.pool.Taken(), taken)
			}
			l, e := x.Window(api.Rect{})
			if e != api.OK || len(l) != items || l[items-1].Row != items-1 {
				t.Errorf("%d items are left, %d", len(l), e)
			}
		}
	}
}
