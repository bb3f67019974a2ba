package rtree_test

import (
	"fmt"
	"math"
	"slices"
	"testing"

	"waywiser/api"
	"waywiser/disk"
	"waywiser/pool"
	"waywiser/rtree"
)

// maxRow is the end that the chapter names.
const maxRow = 1 << 53

// all is the whole plane.
var all = api.Rect{MinX: -api.MaxX, MinY: -api.MaxY, MaxX: api.MaxX, MaxY: api.MaxY}

func want(t *testing.T, what string, e, wants api.Errno) {
	t.Helper()
	if e != wants {
		t.Fatalf("%s tells %d, not %d", what, e, wants)
	}
}

// formatted is a blank pool on a disk of so many sectors.
func formatted(t *testing.T, sectors, size int) (*pool.Pool, *disk.Disk) {
	t.Helper()
	d := disk.New(sectors, size)
	p, e := pool.Format(d)
	want(t, "Format", e, api.OK)
	return p, d
}

func opened(t *testing.T, d *disk.Disk) *pool.Pool {
	t.Helper()
	p, e := pool.Open(d)
	want(t, "pool.Open", e, api.OK)
	return p
}

// made is an empty tree on a pool.
func made(t *testing.T, p *pool.Pool) *rtree.Tree {
	t.Helper()
	x, e := rtree.Make(p)
	want(t, "Make", e, api.OK)
	return x
}

func open(t *testing.T, p *pool.Pool, root int) *rtree.Tree {
	t.Helper()
	x, e := rtree.Open(p, root)
	want(t, "Open", e, api.OK)
	return x
}

func put(t *testing.T, x *rtree.Tree, items ...rtree.Item) {
	t.Helper()
	for _, i := range items {
		want(t, fmt.Sprint("Put of ", i), x.Put(i), api.OK)
	}
}

func drop(t *testing.T, x *rtree.Tree, items ...rtree.Item) {
	t.Helper()
	for _, i := range items {
		want(t, fmt.Sprint("Drop of ", i), x.Drop(i), api.OK)
	}
}

func wantWindow(t *testing.T, x *rtree.Tree, r api.Rect, items ...rtree.Item) {
	t.Helper()
	l, e := x.Window(r)
	if e != api.OK || !slices.Equal(l, items) {
		t.Fatalf("Window(%v): %v, %d; want %v", r, l, e, items)
	}
}

func wantNear(t *testing.T, x *rtree.Tree, p api.Point, most int, items ...rtree.Item) {
	t.Helper()
	l, e := x.Near(p, most)
	if e != api.OK || !slices.Equal(l, items) {
		t.Fatalf("Near(%v, %d): %v, %d; want %v", p, most, l, e, items)
	}
}

func wantHeight(t *testing.T, x *rtree.Tree, n int) {
	t.Helper()
	if got, e := x.Height(); got != n || e != api.OK {
		t.Fatalf("Height: %d, %d; want %d", got, e, n)
	}
}

func wantTaken(t *testing.T, p *pool.Pool, n int) {
	t.Helper()
	if p.Taken() != n {
		t.Fatalf("%d pages are taken, not %d", p.Taken(), n)
	}
}

// spot is the box of a place alone.
func spot(x, y int64) api.Rect { return box(x, y, x, y) }

func box(minX, minY, maxX, maxY int64) api.Rect {
	return api.Rect{MinX: minX, MinY: minY, MaxX: maxX, MaxY: maxY}
}

// spots are so many items, places of a grid 10 wide.
func spots(many int) []rtree.Item {
	var l []rtree.Item
	for i := range int64(many) {
		l = append(l, rtree.Item{Box: spot(i%10, i/10), Row: int(i)})
	}
	return l
}

// down lets a disk be down.
func down(d *disk.Disk) {
	d.Arm(1)
	d.Flush()
}

func TestMake(t *testing.T) { // P15.1
	p, d := formatted(t, 40, 512)
	if x, e := rtree.Make(nil); x != nil || e != api.ErrArg {
		t.Errorf("Make(nil): %v, %d", x, e)
	}
	x, y := made(t, p), made(t, p)
	if x.Root() != 1 || y.Root() != 2 || p.Taken() != 2 {
		t.Errorf("roots %d and %d, %d taken", x.Root(), y.Root(), p.Taken())
	}
	for _, x := range []*rtree.Tree{x, y} {
		wantWindow(t, x, all)
		wantNear(t, x, api.Point{}, 9)
		wantHeight(t, x, 1)
	}
	d.Arm(1)
	want(t, "Commit", p.Commit(), api.ErrDown)
	if x, e := rtree.Make(p); x != nil || e != api.ErrState {
		t.Errorf("Make on a dead pool: %v, %d", x, e)
	}
}

// TestMakeOnAFullPool: what a pool that is full can't do takes all back that was not committed, also here.
func TestMakeOnAFullPool(t *testing.T) { // P15.1
	p, _ := formatted(t, 40, 512)
	x := made(t, p)
	put(t, x, spots(3)...)
	want(t, "Commit", p.Commit(), api.OK)
	put(t, x, rtree.Item{Row: 77})
	for p.Taken() < p.Pages()-1 {
		p.Take()
	}
	if x, e := rtree.Make(p); x != nil || e != api.ErrFull {
		t.Errorf("Make: %v, %d", x, e)
	}
	wantTaken(t, p, 1)
	wantWindow(t, x, all, spots(3)...)
}

func TestOpen(t *testing.T) { // P15.1, P15.3
	p, d := formatted(t, 40, 512)
	x := made(t, p)
	put(t, x, spots(1)...)
	if x, e := rtree.Open(nil, x.Root()); x != nil || e != api.ErrArg {
		t.Errorf("Open(nil): %v, %d", x, e)
	}
	for _, page := range []int{math.MinInt, -1, 0, 2, 28, 29, 40, math.MaxInt} {
		if x, e := rtree.Open(p, page); x != nil || e != api.ErrNone {
			t.Errorf("Open(%d): %v, %d", page, x, e)
		}
	}
	y := open(t, p, x.Root())
	wantWindow(t, y, all, spots(1)...)
	put(t, y, spots(2)[1]) // two of one root are one tree
	wantWindow(t, x, all, spots(2)...)
	if y.Root() != x.Root() {
		t.Errorf("root %d", y.Root())
	}
	want(t, "Commit", p.Commit(), api.OK)
	put(t, y, spots(3)[2])
	p = opened(t, d)
	wantWindow(t, open(t, p, x.Root()), all, spots(2)...)
}

// TestOpenOfADiskThatIsDown: the page is taken, and the tree tells what can't be done.
func TestOpenOfADiskThatIsDown(t *testing.T) { // P15.1
	p, d := formatted(t, 40, 512)
	root := made(t, p).Root()
	want(t, "Commit", p.Commit(), api.OK)
	want(t, "Checkpoint", p.Checkpoint(), api.OK)
	down(d)
	x := open(t, p, root)
	if n, e := x.Height(); n != 0 || e != api.ErrDown {
		t.Errorf("Height: %d, %d", n, e)
	}
	if y, e := rtree.Open(p, root+1); y != nil || e != api.ErrNone {
		t.Errorf("Open of no page: %v, %d", y, e)
	}
}

func TestPutAndDrop(t *testing.T) { // P15.1
	p, _ := formatted(t, 40, 512)
	x := made(t, p)
	items := []rtree.Item{
		{Box: spot(0, 0), Row: 0},
		{Box: spot(-api.MaxX, -api.MaxY), Row: 0},
		{Box: spot(api.MaxX, api.MaxY), Row: 1},
		{Box: all, Row: 1},
		{Box: spot(0, 0), Row: maxRow - 1},
		{Box: all, Row: maxRow},
		{Box: box(-1, 2, 3, 4), Row: maxRow},
	}
	for i, a := range items {
		want(t, "Drop", x.Drop(a), api.ErrNone)
		put(t, x, a)
		for j, b := range items {
			e := api.ErrNone
			if j <= i {
				e = api.ErrThere
				want(t, "Put once more", x.Put(b), e)
			}
		}
	}
	ordered := []rtree.Item{items[1], items[0], items[3], items[2], items[4], items[5], items[6]}
	wantWindow(t, x, all, ordered...)
	for i, a := range items {
		drop(t, x, a)
		want(t, "Drop once more", x.Drop(a), api.ErrNone)
		left := slices.DeleteFunc(slices.Clone(ordered), func(b rtree.Item) bool { return slices.Index(items, b) <= i })
		wantWindow(t, x, all, left...)
	}
	put(t, x, items[3])
	wantWindow(t, x, all, items[3])
}

// TestAlmostThere: an item of the same box, or of the same row, is another one.
func TestAlmostThere(t *testing.T) { // P15.1
	p, _ := formatted(t, 40, 512)
	x := made(t, p)
	one := rtree.Item{Box: box(1, 2, 3, 4), Row: 5}
	put(t, x, one)
	for _, other := range []rtree.Item{
		{Box: box(0, 2, 3, 4), Row: 5}, {Box: box(1, 1, 3, 4), Row: 5}, {Box: box(1, 2, 4, 4), Row: 5}, {Box: box(1, 2, 3, 5), Row: 5}, {Box: box(1, 2, 3, 4), Row: 4}, {Box: box(1, 2, 3, 4), Row: 6},
	} {
		want(t, "Drop of another one", x.Drop(other), api.ErrNone)
		put(t, x, other)
		want(t, "Put once more", x.Put(other), api.ErrThere)
		drop(t, x, other)
	}
	wantWindow(t, x, all, one)
}

// boxes are such as may not be.
func boxes() []api.Rect {
	return []api.Rect{
		box(-api.MaxX-1, 0, 0, 0), box(0, -api.MaxY-1, 0, 0), box(0, 0, api.MaxX+1, 0), box(0, 0, 0, api.MaxY+1),
		box(1, 0, 0, 0), box(0, 1, 0, 0), box(0, 0, -1, 0), box(0, 0, 0, -1), box(0, api.MaxY, 0, -api.MaxY),
		box(api.MaxX+1, 0, api.MaxX+1, 0), box(0, -api.MaxY-1, 0, -api.MaxY-1),
		box(math.MinInt64, math.MinInt64, math.MaxInt64, math.MaxInt64), box(math.MaxInt64, math.MaxInt64, math.MinInt64, math.MinInt64),
		box(1<<32, 0, 1<<32, 0), box(0, -1<<32, 0, 1<<32),
	}
}

func TestWhatMayNotBe(t *testing.T) { // P15.1, P15.2
	p, d := formatted(t, 40, 512)
	x := made(t, p)
	items := spots(3)
	put(t, x, items...)
	want(t, "Commit", p.Commit(), api.OK)
	check := func() {
		t.Helper()
		for _, b := range boxes() {
			for _, row := range []int{0, 1, -1, maxRow + 1} {
				want(t, "Put", x.Put(rtree.Item{Box: b, Row: row}), api.ErrGeo)
				want(t, "Drop", x.Drop(rtree.Item{Box: b, Row: row}), api.ErrNone)
			}
			wantWindow(t, x, b)
		}
		for _, row := range []int{-1, maxRow + 1, math.MinInt, math.MaxInt, -1 << 56, 1 << 56} {
			for _, b := range []api.Rect{all, spot(0, 0), spot(1, 0)} {
				want(t, "Put", x.Put(rtree.Item{Box: b, Row: row}), api.ErrRange)
				want(t, "Drop", x.Drop(rtree.Item{Box: b, Row: row}), api.ErrNone)
			}
		}
		for _, p := range []api.Point{{X: api.MaxX + 1}, {X: -api.MaxX - 1}, {Y: api.MaxY + 1}, {Y: -api.MaxY - 1}, {X: math.MaxInt64, Y: math.MinInt64}} {
			wantNear(t, x, p, 9)
		}
		for _, most := range []int{0, -1, math.MinInt} {
			wantNear(t, x, api.Point{}, most)
		}
	}
	check()
	wantWindow(t, x, all, items...)
	wantNear(t, x, api.Point{X: api.MaxX, Y: api.MaxY}, 1, items[2])
	want(t, "Checkpoint", p.Checkpoint(), api.OK)
	down(d)
	check() // it is named ahead of the pool's errors
}

func TestNilTree(t *testing.T) { // P15.2, R1
	var x *rtree.Tree
	if x.Root() != 0 {
		t.Error("a nil tree has a root")
	}
	for _, b := range append(boxes(), all) {
		l, e := x.Window(b)
		if l != nil || e != api.ErrArg {
			t.Errorf("Window: %v, %d", l, e)
		}
		want(t, "Put", x.Put(rtree.Item{Box: b}), api.ErrArg)
		want(t, "Drop", x.Drop(rtree.Item{Box: b}), api.ErrArg)
		want(t, "Put", x.Put(rtree.Item{Box: b, Row: -1}), api.ErrArg)
	}
	for _, most := range []int{-1, 0, 9} {
		l, e := x.Near(api.Point{X: int64(most) << 60}, most)
		if l != nil || e != api.ErrArg {
			t.Errorf("Near: %v, %d", l, e)
		}
	}
	n, e := x.Height()
	if n != 0 || e != api.ErrArg {
		t.Errorf("Height: %d, %d", n, e)
	}
	want(t, "Free", x.Free(), api.ErrArg)
}

func TestWindow(t *testing.T) { // P15.2
	p, _ := formatted(t, 40, 512)
	x := made(t, p)
	items := []rtree.Item{ // in order
		{Box: spot(5, 5), Row: 0},
		{Box: box(0, 0, 10, 10), Row: 1},
		{Box: box(0, 0, 10, 11), Row: 1},
		{Box: box(0, 0, 11, 10), Row: 1},
		{Box: box(0, 1, 10, 10), Row: 1},
		{Box: box(1, 0, 10, 10), Row: 1},
		{Box: box(-5, -5, 20, 20), Row: 2},
		{Box: box(30, 0, 40, 0), Row: 3},
	}
	for _, i := range []int{5, 7, 0, 4, 1, 6, 3, 2} {
		put(t, x, items[i])
	}
	wantWindow(t, x, all, items...)
	wantWindow(t, x, spot(5, 5), items[:7]...)
	wantWindow(t, x, spot(0, 0), items[1], items[2], items[3], items[6]) // an edge is of a box
	wantWindow(t, x, spot(10, 11), items[2], items[6])
	wantWindow(t, x, spot(11, 10), items[3], items[6])
	wantWindow(t, x, spot(11, 11), items[6])
	wantWindow(t, x, box(20, 20, 50, 50), items[6])
	wantWindow(t, x, box(21, 20, 50, 50))
	wantWindow(t, x, box(-50, -50, -5, -5), items[6])
	wantWindow(t, x, box(-50, -50, -5, -6))
	wantWindow(t, x, box(35, -1, 36, 1), items[7])
	wantWindow(t, x, box(40, 0, 40, 0), items[7])
	wantWindow(t, x, box(12, -20, 13, 30), items[6]) // across
	wantWindow(t, x, spot(api.MaxX, api.MaxY))
}

func TestNear(t *testing.T) { // P15.2
	p, _ := formatted(t, 40, 512)
	x := made(t, p)
	items := []rtree.Item{
		{Box: box(0, 0, 10, 10), Row: 7}, // 0 far from (3, 4)
		{Box: box(3, 4, 90, 90), Row: 8}, // 0
		{Box: box(3, 9, 4, 9), Row: 1},   // 25
		{Box: box(-2, 0, -2, 9), Row: 1}, // 25
		{Box: box(6, -4, 7, 0), Row: 1},  // 25
		{Box: spot(3, 10), Row: 0},       // 36
		{Box: spot(-api.MaxX, api.MaxY), Row: 0},
		{Box: spot(api.MaxX, -api.MaxY), Row: 0},
	}
	ordered := []rtree.Item{items[0], items[1], items[3], items[2], items[4], items[5], items[7], items[6]}
	for _, i := range []int{6, 2, 7, 1, 4, 0, 3, 5} {
		put(t, x, items[i])
	}
	from := api.Point{X: 3, Y: 4}
	for most := 1; most <= len(items)+1; most++ {
		wantNear(t, x, from, most, ordered[:min(most, len(items))]...)
	}
	wantNear(t, x, from, math.MaxInt, ordered...)
	wantNear(t, x, api.Point{X: api.MaxX, Y: -api.MaxY}, 1, items[7])
	wantNear(t, x, api.Point{X: -api.MaxX, Y: api.MaxY}, 9, items[6], items[1], items[3], items[0], items[5], items[2], items[4], items[7])
}

// TestFarthest: no distance on the plane is too great.
func TestFarthest(t *testing.T) { // P15.2
	p, _ := formatted(t, 40, 512)
	x := made(t, p)
	items := []rtree.Item{
		{Box: spot(api.MaxX-1, api.MaxY), Row: 3},
		{Box: spot(api.MaxX, api.MaxY-1), Row: 2},
		{Box: spot(api.MaxX, api.MaxY), Row: 1},
	}
	put(t, x, items...)
	wantNear(t, x, api.Point{X: -api.MaxX, Y: -api.MaxY}, 9, items...)
}

// TestSamePlace: of many items at one place those of the least rows come first, also if few are asked for.
func TestSamePlace(t *testing.T) { // P15.1, P15.2, P15.3
	p, _ := formatted(t, 4000, 512)
	x := made(t, p)
	const many = 5000
	here := box(1, 2, 3, 4)
	for i := range many {
		put(t, x, rtree.Item{Box: here, Row: i * 1009 % many})
	}
	var items []rtree.Item
	for i := range many {
		items = append(items, rtree.Item{Box: here, Row: i})
		want(t, "Put once more", x.Put(items[i]), api.ErrThere)
	}
	want(t, "Put of another place", x.Put(rtree.Item{Box: box(1, 2, 3, 5), Row: 6}), api.OK)
	drop(t, x, rtree.Item{Box: box(1, 2, 3, 5), Row: 6})
	for _, from := range []api.Point{{X: 2, Y: 3}, {}, {X: 100}} {
		wantNear(t, x, from, 100, items[:100]...)
		wantNear(t, x, from, many+1, items...)
	}
	wantWindow(t, x, spot(3, 4), items...)
	wantWindow(t, x, spot(0, 4))
	for i := range many {
		k := i * 1013 % many
		drop(t, x, items[k])
		want(t, "Drop once more", x.Drop(items[k]), api.ErrNone)
	}
	wantHeight(t, x, 1)
	wantTaken(t, p, 1)
}

// TestGrowsAndEnds puts in and drops so many items that there are inner pages of several levels.
func TestGrowsAndEnds(t *testing.T) { // P15.1, P15.3
	p, d := formatted(t, 8000, 512)
	other := made(t, p)
	x := made(t, p)
	root := x.Root()
	const many = 4000
	items := spots(many)
	ahead := 1
	for i := range many {
		put(t, x, items[i*1009%many])
		h, e := x.Height()
		if e != api.OK || h < ahead || h > ahead+1 {
			t.Fatalf("Height: %d, %d behind %d", h, e, ahead)
		}
		ahead = h
		if i%50 == 0 {
			want(t, "Commit", p.Commit(), api.OK)
		}
	}
	want(t, "Commit", p.Commit(), api.OK)
	if ahead < 3 || x.Root() != root {
		t.Errorf("height %d, root %d", ahead, x.Root())
	}
	p = opened(t, d)
	x = open(t, p, root)
	wantHeight(t, x, ahead)
	wantWindow(t, x, all, items...)
	wantWindow(t, x, box(0, 100, 9, 100), items[1000:1010]...)
	wantNear(t, x, api.Point{X: 5, Y: 30}, 1, items[305])
	for i := range many {
		drop(t, x, items[i*1013%many])
		if i%50 == 0 {
			want(t, "Commit", p.Commit(), api.OK)
		}
	}
	wantTaken(t, p, 2)
	wantHeight(t, x, 1)
	wantWindow(t, x, all)
	wantNear(t, x, api.Point{}, 9)
	put(t, x, items[7])
	wantWindow(t, x, all, items[7])
	want(t, "Free", x.Free(), api.OK)
	wantTaken(t, p, 1)
	wantWindow(t, open(t, p, other.Root()), all)
}

func TestFree(t *testing.T) { // P15.1, P15.3
	p, d := formatted(t, 4000, 512)
	y := made(t, p)
	put(t, y, spots(100)...)
	ahead := p.Taken()
	for _, many := range []int{0, 1, 2, 20, 21, 300, 1500} {
		x := made(t, p)
		put(t, x, spots(many)...)
		want(t, "Free", x.Free(), api.OK)
		wantTaken(t, p, ahead)
	}
	wantWindow(t, y, all, spots(100)...)
	want(t, "Commit", p.Commit(), api.OK)
	want(t, "Free", y.Free(), api.OK)
	wantTaken(t, p, 0)
	want(t, "Commit", p.Commit(), api.OK)
	wantTaken(t, opened(t, d), 0)
}

// TestBack: what was done since the last commit can be taken back.
func TestBack(t *testing.T) { // P15.3
	p, _ := formatted(t, 400, 512)
	x := made(t, p)
	put(t, x, spots(90)...)
	want(t, "Commit", p.Commit(), api.OK)
	taken := p.Taken()
	for _, i := range spots(90)[10:] {
		drop(t, x, i)
	}
	put(t, x, rtree.Item{Box: all, Row: 5})
	want(t, "Back", p.Back(), api.OK)
	wantTaken(t, p, taken)
	wantWindow(t, x, all, spots(90)...)
	want(t, "Free", x.Free(), api.OK)
	want(t, "Back", p.Back(), api.OK)
	wantTaken(t, p, taken)
	wantWindow(t, x, all, spots(90)...)
}

// TestFull: a Put that the pool has no room for takes all changes back, of other trees, too.
func TestFull(t *testing.T) { // P15.1
	p, d := formatted(t, 40, 512)
	x, y := made(t, p), made(t, p)
	put(t, x, spots(3)...)
	put(t, y, spots(30)...)
	want(t, "Commit", p.Commit(), api.OK)
	ahead := p.Taken()
	put(t, y, rtree.Item{Row: 77})
	n, e := 0, api.OK
	for ; e == api.OK; n++ {
		e = x.Put(rtree.Item{Box: spot(int64(n), int64(n*n%77)), Row: 100 + n})
	}
	want(t, "Put", e, api.ErrFull)
	if n < 200 || n > 1000 {
		t.Errorf("%d items have room", n)
	}
	wantTaken(t, p, ahead)
	for range 2 {
		wantWindow(t, x, all, spots(3)...)
		wantWindow(t, y, all, spots(30)...)
		want(t, "Commit", p.Commit(), api.OK)
		p = opened(t, d)
		x, y = open(t, p, x.Root()), open(t, p, y.Root())
	}
}

// TestFullWithin: a page has to be parted, and the pool has room for one more page, or none, where two are asked for.
func TestFullWithin(t *testing.T) { // P15.1
	for left := range 3 {
		p, _ := formatted(t, 400, 512)
		x := made(t, p)
		items := spots(20) // so many have room on a page
		put(t, x, items...)
		wantHeight(t, x, 1)
		for p.Taken() < p.Pages()-1-left {
			p.Take()
			want(t, "Commit", p.Commit(), api.OK)
		}
		taken := p.Taken()
		e := x.Put(rtree.Item{Box: all, Row: 77})
		if left == 2 {
			want(t, "Put", e, api.OK)
			wantHeight(t, x, 2)
			wantTaken(t, p, taken+2)
			continue
		}
		want(t, "Put", e, api.ErrFull)
		wantTaken(t, p, taken)
		wantWindow(t, x, all, items...)
	}
}

// TestPoolErrors lets the disk go down, and asks the dead pool's tree while it is down, and behind the crash.
func TestPoolErrors(t *testing.T) { // P15.1, P15.2
	items := spots(60)
	list := func(l []rtree.Item, e api.Errno) api.Errno {
		if l != nil {
			t.Error("items beside an error")
		}
		return e
	}
	for what, call := range map[string]func(x *rtree.Tree) api.Errno{
		"Put":     func(x *rtree.Tree) api.Errno { return x.Put(rtree.Item{Box: all, Row: 5}) },
		"Drop":    func(x *rtree.Tree) api.Errno { return x.Drop(items[7]) },
		"Window":  func(x *rtree.Tree) api.Errno { return list(x.Window(all)) },
		"Nothing": func(x *rtree.Tree) api.Errno { return list(x.Window(spot(-77, -77))) },
		"Near":    func(x *rtree.Tree) api.Errno { return list(x.Near(api.Point{}, 1)) },
		"Free":    func(x *rtree.Tree) api.Errno { return x.Free() },
		"Height": func(x *rtree.Tree) api.Errno {
			n, e := x.Height()
			if n != 0 {
				t.Error("Height tells one")
			}
			return e
		},
	} {
		p, d := formatted(t, 100, 512)
		x := made(t, p)
		put(t, x, items...)
		want(t, "Commit", p.Commit(), api.OK)
		want(t, "Checkpoint", p.Checkpoint(), api.OK)
		taken := p.Taken()
		p.SetRoot(0, 7)
		down(d)
		want(t, what, call(x), api.ErrDown)
		if !p.Dead() {
			t.Errorf("%s: the pool is not dead", what)
		}
		want(t, what, call(x), api.ErrDown)
		d.Crash(nil)
		switch what {
		case "Put", "Drop", "Free":
			want(t, what, call(x), api.ErrState)
		default:
			wantNear(t, x, api.Point{}, 1, items[0])
		}
		want(t, "Put", x.Put(items[9]), api.ErrThere) // named ahead of what the pool can't do
		want(t, "Drop", x.Drop(rtree.Item{Box: items[9].Box, Row: 8}), api.ErrNone)
		wantWindow(t, x, all, items...)
		wantTaken(t, p, taken)
	}
}

// TestDownBesideAPage: a neighbour of a page is to be looked at, and the disk that has it is down. Nothing is done by halves.
func TestDownBesideAPage(t *testing.T) { // P15.1
	p, d := formatted(t, 400, 512)
	x := made(t, p)
	var items []rtree.Item // of two pages: there is one to the left, and one to the right
	for i := range int64(19) {
		left, right := rtree.Item{Box: spot(i, i), Row: int(i)}, rtree.Item{Box: spot(1000000+i, i), Row: 100 + int(i)}
		put(t, x, left, right)
		items = slices.Insert(append(items, right), int(i), left)
	}
	want(t, "Commit", p.Commit(), api.OK)
	want(t, "Checkpoint", p.Checkpoint(), api.OK)
	one := rtree.Item{Box: spot(-1, -1), Row: 77}
	put(t, x, one) // now the way to the left is in memory
	items = slices.Insert(items, 19, one)
	taken := p.Taken()
	down(d)
	dropped, e := 0, api.OK
	for e == api.OK && dropped < 19 {
		if e = x.Drop(items[0]); e == api.OK {
			items = items[1:]
			dropped++
		}
	}
	want(t, "Drop", e, api.ErrDown)
	if dropped == 0 {
		t.Error("the way to the left is not in memory")
	}
	d.Crash(nil)
	wantTaken(t, p, taken)
	wantWindow(t, x, all, items...)
	want(t, "Drop", x.Drop(items[0]), api.ErrState)
	wantWindow(t, x, all, items...)
}

func TestMemoryIsNotShared(t *testing.T) { // R4
	p, _ := formatted(t, 100, 512)
	x := made(t, p)
	items := spots(50)
	put(t, x, items...)
	for _, call := range []func() ([]rtree.Item, api.Errno){
		func() ([]rtree.Item, api.Errno) { return x.Window(all) },
		func() ([]rtree.Item, api.Errno) { return x.Near(api.Point{X: 1}, 60) },
	} {
		first, _ := call()
		second, _ := call()
		kept := slices.Clone(second)
		clear(first[:cap(first)])
		if len(kept) != 50 || !slices.Equal(second, kept) {
			t.Error("two answers share memory")
		}
		again, _ := call()
		if !slices.Equal(again, kept) {
			t.Error("an answer shares memory with the tree")
		}
	}
}

// TestOfNoTree: what pages hold that are no tree's may be told as anything, but all calls end.
func TestOfNoTree(t *testing.T) { // R1
	inner := func(pages ...byte) []byte { // children that may hold anything
		load := []byte{1, byte(len(pages)), 0}
		for _, page := range pages {
			load = append(load, make([]byte, 8)...)                  // from the least place
			load = append(load, 0, 164, 147, 214, 0, 210, 73, 107)   // to the greatest one
			load = append(load, make([]byte, 7)...)                  // from the least row
			load = append(load, 0, 0, 0, 0, 0, 0, 32, page, 0, 0, 0) // to the greatest one
		}
		return load
	}
	full := func(b byte) []byte {
		load := make([]byte, 467)
		for i := range load {
			load[i] = b
		}
		return load
	}
	loads := [][]byte{
		inner(1),                // leads to itself
		inner(1, 1),             // twice
		inner(2),                // to a page that is not taken
		inner(0), inner(255, 7), // to none
		{1, 0, 0},                             // to nothing
		{0, 255, 255},                         // too many
		{1, 255, 255}, {2, 0, 0}, {255, 1, 0}, // of no kind
		{1, 20, 0}, full(255), full(1), full(0), full(20),
	}
	item := rtree.Item{Box: spot(5, 5), Row: 5}
	zero := rtree.Item{Box: spot(-api.MaxX, -api.MaxY)}
	for _, load := range loads {
		calls := []func(x *rtree.Tree){
			func(x *rtree.Tree) { x.Window(all) },
			func(x *rtree.Tree) { x.Near(api.Point{}, 1<<62) },
			func(x *rtree.Tree) { x.Height() },
			func(x *rtree.Tree) { x.Put(item) },
			func(x *rtree.Tree) { x.Drop(item) },
			func(x *rtree.Tree) { x.Drop(zero) },
			func(x *rtree.Tree) { x.Free() },
		}
		for _, call := range calls {
			p, _ := formatted(t, 40, 512)
			x := made(t, p)
			want(t, "Write", p.Write(x.Root(), load), api.OK)
			want(t, "Commit", p.Commit(), api.OK)
			call(x)
		}
	}
}

// TestExamples are the chapter's.
func TestExamples(t *testing.T) {
	p, _ := formatted(t, 40, 512)
	x := made(t, p)
	items := []rtree.Item{{Box: spot(0, 0), Row: 1}, {Box: spot(5, 5), Row: 2}, {Box: spot(9, 9), Row: 3}}
	put(t, x, items...)
	wantNear(t, x, api.Point{X: 6, Y: 6}, 2, items[1], items[2])
	wantWindow(t, x, box(4, 4, 9, 8), items[1])
	want(t, "Commit", p.Commit(), api.OK)
}
