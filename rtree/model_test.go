package rtree_test

import (
	"bytes"
	"cmp"
	"maps"
	"math/big"
	"math/rand"
	"slices"
	"testing"

	"waywiser/api"
	"waywiser/disk"
	"waywiser/pool"
	"waywiser/rtree"
)

// model is a tree in the plainest way.
type model map[rtree.Item]bool

// order holds items against each other by the chapter's words.
func order(a, b rtree.Item) int {
	for _, pair := range [][2]int64{{int64(a.Row), int64(b.Row)}, {a.Box.MinX, b.Box.MinX}, {a.Box.MinY, b.Box.MinY}, {a.Box.MaxX, b.Box.MaxX}, {a.Box.MaxY, b.Box.MaxY}} {
		if c := cmp.Compare(pair[0], pair[1]); c != 0 {
			return c
		}
	}
	return 0
}

// window tells its items that have a point in common with a rect, in order.
func (m model) window(r api.Rect) []rtree.Item {
	var l []rtree.Item
	for x := range m {
		if max(x.Box.MinX, r.MinX) <= min(x.Box.MaxX, r.MaxX) && max(x.Box.MinY, r.MinY) <= min(x.Box.MaxY, r.MaxY) {
			l = append(l, x)
		}
	}
	slices.SortFunc(l, order)
	return l
}

// square is the square of how far a number is from those between two others.
func square(n, low, high int64) *big.Int {
	by := big.NewInt(max(low-n, n-high, 0))
	return by.Mul(by, by)
}

// near tells its items, the nearest first.
func (m model) near(p api.Point) []rtree.Item {
	far := map[rtree.Item]*big.Int{}
	for x := range m {
		sum := square(p.X, x.Box.MinX, x.Box.MaxX)
		far[x] = sum.Add(sum, square(p.Y, x.Box.MinY, x.Box.MaxY))
	}
	return slices.SortedFunc(maps.Keys(m), func(a, b rtree.Item) int { return cmp.Or(far[a].Cmp(far[b]), order(a, b)) })
}

// look holds what a tree tells against its model.
func (m model) look(t *testing.T, r *rand.Rand, x *rtree.Tree, side int64) {
	t.Helper()
	b := anyBox(r, side)
	wantWindow(t, x, b, m.window(b)...)
	p := api.Point{X: b.MinX, Y: b.MaxY}
	l := m.near(p)
	most := 1 + r.Intn(len(l)+2)
	wantNear(t, x, p, most, l[:min(most, len(l))]...)
}

// anyBox is one by chance, about a middle that lies so far from the plane's at most: often a place, or a line.
func anyBox(r *rand.Rand, side int64) api.Rect {
	x, y := r.Int63n(2*side+1)-side, r.Int63n(side+1)-side/2
	var long, broad int64
	switch r.Intn(6) {
	case 0:
		long = r.Int63n(side + 1)
	case 1:
		broad = r.Int63n(side + 1)
	case 2, 3:
		long, broad = r.Int63n(side/4+1), r.Int63n(side/4+1)
	}
	return box(x, y, min(x+long, api.MaxX), min(y+broad, api.MaxY))
}

// anyItem is one by chance, of those of which some often come again.
func anyItem(r *rand.Rand, side int64) rtree.Item {
	row := r.Intn(4)
	switch r.Intn(4) {
	case 0:
		row = r.Intn(maxRow + 1)
	case 1:
		row = maxRow - r.Intn(3)
	}
	return rtree.Item{Box: anyBox(r, side), Row: row}
}

// drawn is an item of a model by chance, if it has one.
func (m model) drawn(r *rand.Rand) (rtree.Item, bool) {
	if len(m) == 0 {
		return rtree.Item{}, false
	}
	return slices.SortedFunc(maps.Keys(m), order)[r.Intn(len(m))], true
}

// change puts something into a tree and its model by chance, or drops it.
func (m model) change(t *testing.T, r *rand.Rand, x *rtree.Tree, side int64, up bool) {
	t.Helper()
	i := anyItem(r, side)
	if last, is := m.drawn(r); is && r.Intn(8) > 0 && !up {
		i = last
	}
	if up || r.Intn(8) == 0 {
		e := api.OK
		if m[i] {
			e = api.ErrThere
		}
		want(t, "Put", x.Put(i), e)
		m[i] = true
		return
	}
	e := api.ErrNone
	if m[i] {
		e = api.OK
	}
	want(t, "Drop", x.Drop(i), e)
	delete(m, i)
}

// TestTreeIsItsModel does by chance what may be done with two trees of a pool.
func TestTreeIsItsModel(t *testing.T) { // P15.1, P15.2, P15.3
	r := rand.New(rand.NewSource(1))
	for turn := range 60 {
		size := []int{512, 513, 700, 1024, 4096}[turn%5]
		side := []int64{1, 3, 40, 1000000, api.MaxX}[r.Intn(5)]
		p, d := formatted(t, 3000, size)
		trees := []*rtree.Tree{made(t, p), made(t, p)}
		now := []model{{}, {}}
		want(t, "Commit", p.Commit(), api.OK)
		then := []model{{}, {}}
		ups := 10
		for range 500 {
			i := r.Intn(2)
			switch k := r.Intn(40); {
			case k == 0:
				want(t, "Commit", p.Commit(), api.OK)
				then = []model{maps.Clone(now[0]), maps.Clone(now[1])}
			case k == 1 && r.Intn(4) == 0:
				want(t, "Back", p.Back(), api.OK)
				now = []model{maps.Clone(then[0]), maps.Clone(then[1])}
			case k == 2 && r.Intn(4) == 0:
				p = opened(t, d)
				now = []model{maps.Clone(then[0]), maps.Clone(then[1])}
				trees = []*rtree.Tree{open(t, p, trees[0].Root()), open(t, p, trees[1].Root())}
			case k < 4:
				ups = 2 + r.Intn(10)
			default:
				now[i].change(t, r, trees[i], side, r.Intn(12) < ups)
			}
			now[i].look(t, r, trees[i], side)
		}
		end(t, p, trees, now)
	}
}

// end drops what trees have: their roots alone are taken then.
func end(t *testing.T, p *pool.Pool, trees []*rtree.Tree, now []model) {
	t.Helper()
	for i, x := range trees {
		wantWindow(t, x, all, now[i].window(all)...)
		for k := range now[i] {
			drop(t, x, k)
		}
		wantHeight(t, x, 1)
		wantWindow(t, x, all)
	}
	wantTaken(t, p, 2)
	for i, x := range trees {
		want(t, "Free", x.Free(), api.OK)
		wantTaken(t, p, 1-i)
	}
}

// TestDown lets the disk go down while a row of changes is committed: opened behind the crash, the tree has what was there at the last commit, or at the one more.
func TestDown(t *testing.T) { // P15.3, P3
	r := rand.New(rand.NewSource(2))
	for range 150 {
		p, d := formatted(t, 300, 512)
		x := made(t, p)
		want(t, "Commit", p.Commit(), api.OK)
		then, now := model{}, model{}
		for range 2 + r.Intn(6) {
			want(t, "Commit", p.Commit(), api.OK)
			then = maps.Clone(now)
			up := r.Intn(3) > 0
			for range 1 + r.Intn(60) {
				now.change(t, r, x, 50, up)
			}
		}
		d.Arm(1 + r.Intn(30))
		e := p.Commit()
		d.Crash([]int{r.Intn(2), r.Intn(2), r.Intn(2), r.Intn(513)})
		x = open(t, opened(t, d), x.Root())
		l, f := x.Window(all)
		if f != api.OK || !slices.Equal(l, now.window(all)) && (e == api.OK || !slices.Equal(l, then.window(all))) {
			t.Fatalf("the tree has %v, %d: neither what it had nor what it was to have", l, f)
		}
	}
}

// TestSameBytes does the same with several trees: their disks are alike.
func TestSameBytes(t *testing.T) { // R5
	var wants []byte
	for range 5 {
		r := rand.New(rand.NewSource(3))
		p, d := formatted(t, 2000, 512)
		x := made(t, p)
		m := model{}
		for i := range 600 {
			m.change(t, r, x, 30, i/150%2 == 0)
			want(t, "Commit", p.Commit(), api.OK)
		}
		if got := bytesOf(d); wants == nil {
			wants = got
		} else if !bytes.Equal(got, wants) {
			t.Fatal("trees to which the same was done have not the same bytes")
		}
	}
}

// bytesOf are all of a disk's bytes.
func bytesOf(d *disk.Disk) []byte {
	var all []byte
	for at := range d.Sectors() {
		b, _ := d.Read(at)
		all = append(all, b...)
	}
	return all
}
