package geom_test

import (
	"math"
	"math/big"
	"math/rand"
	"slices"
	"testing"

	"waywiser/api"
	"waywiser/geom"
)

func at(x, y int64) api.Point { return api.Point{X: x, Y: y} }

func rect(minX, minY, maxX, maxY int64) api.Rect {
	return api.Rect{MinX: minX, MinY: minY, MaxX: maxX, MaxY: maxY}
}

// far are points that may be, many of them at the ends; some are all but on a line with two others.
func far() []api.Point {
	var l []api.Point
	for _, x := range []int64{-api.MaxX, 1 - api.MaxX, -2, -1, 0, 1, 2, api.MaxX - 2, api.MaxX - 1, api.MaxX} {
		for _, y := range []int64{-api.MaxY, -1, 0, 1, api.MaxY - 1, api.MaxY} {
			l = append(l, at(x, y))
		}
	}
	return l
}

// chance is a point that may be.
func chance(r *rand.Rand) api.Point {
	return at(r.Int63n(2*api.MaxX+1)-api.MaxX, r.Int63n(2*api.MaxY+1)-api.MaxY)
}

// beyond are points that may not be.
func beyond() []api.Point {
	return []api.Point{
		at(api.MaxX+1, 0), at(-api.MaxX-1, 0), at(0, api.MaxY+1), at(0, -api.MaxY-1), at(api.MaxX+1, api.MaxY+1),
		at(math.MaxInt64, 0), at(math.MinInt64, 0), at(0, math.MaxInt64), at(0, math.MinInt64), at(math.MinInt64, math.MinInt64), at(math.MaxInt64, math.MinInt64),
		at(1<<32, 0), at(0, 1<<32), at(1<<62, 1<<62),
	}
}

// noRects are rects that may not be.
func noRects() []api.Rect {
	l := []api.Rect{rect(1, 0, 0, 0), rect(0, 1, 0, 0), rect(1, 1, 0, 0), rect(api.MaxX, -api.MaxY, -api.MaxX, api.MaxY), rect(math.MinInt64, math.MinInt64, math.MaxInt64, math.MaxInt64)}
	for _, p := range beyond() {
		l = append(l, rect(p.X, p.Y, p.X, p.Y), rect(min(p.X, 0), min(p.Y, 0), max(p.X, 0), max(p.Y, 0)))
	}
	return l
}

// grid are the points from (least, least) to (most, most).
func grid(least, most int64) []api.Point {
	var l []api.Point
	for x := least; x <= most; x++ {
		for y := least; y <= most; y++ {
			l = append(l, at(x, y))
		}
	}
	return l
}

// moved are ways to lay the points from (0, 0) to (3, 3) elsewhere, so that all turns are as they were.
func moved() []func(p api.Point) api.Point {
	return []func(p api.Point) api.Point{
		func(p api.Point) api.Point { return p },
		func(p api.Point) api.Point { return at(p.X*(2*api.MaxX/3)-api.MaxX, p.Y*(2*api.MaxY/3)-api.MaxY) },
		func(p api.Point) api.Point { return at(p.X-api.MaxX, p.Y-api.MaxY) },
		func(p api.Point) api.Point { return at(p.X+api.MaxX-3, p.Y*(2*api.MaxY/3)-api.MaxY) },
		func(p api.Point) api.Point { return at(p.X*(api.MaxX/3), p.Y+api.MaxY-3) },
		func(p api.Point) api.Point { return at(p.X*7-5, p.X*3+p.Y-4) },
	}
}

// model is the turn by great numbers.
func model(a, b, c api.Point) int {
	product := func(m, n int64) *big.Int { return new(big.Int).Mul(big.NewInt(m), big.NewInt(n)) }
	return product(b.X-a.X, c.Y-a.Y).Cmp(product(b.Y-a.Y, c.X-a.X))
}

// lattice are the points of an edge with whole coordinates.
func lattice(a, b api.Point) []api.Point {
	x, y := b.X-a.X, b.Y-a.Y
	n := new(big.Int).GCD(nil, nil, new(big.Int).Abs(big.NewInt(x)), new(big.Int).Abs(big.NewInt(y))).Int64()
	l := []api.Point{a}
	for i := int64(1); i <= n; i++ {
		l = append(l, at(a.X+i*x/n, a.Y+i*y/n))
	}
	return l
}

// shared tells whether two edges have a point in common, and whether it is within both, of points with small coordinates: how far along the edges the lines meet, else, where these don't or are the same, which whole points are on both.
func shared(a, b, c, d api.Point) (meet, cross bool) {
	product := func(ux, uy, vx, vy int64) int64 { return ux*vy - uy*vx }
	whole := product(b.X-a.X, b.Y-a.Y, d.X-c.X, d.Y-c.Y)
	if whole == 0 {
		on := lattice(c, d)
		return slices.ContainsFunc(lattice(a, b), func(p api.Point) bool { return slices.Contains(on, p) }), false
	}
	first := product(c.X-a.X, c.Y-a.Y, d.X-c.X, d.Y-c.Y)
	second := product(c.X-a.X, c.Y-a.Y, b.X-a.X, b.Y-a.Y)
	if whole < 0 {
		whole, first, second = -whole, -first, -second
	}
	meet = 0 <= first && first <= whole && 0 <= second && second <= whole
	return meet, 0 < first && first < whole && 0 < second && second < whole
}

// around tells Inside by the chapter's words, along a line that goes through no point of the ring; all lines must tell the same. Coordinates are small.
func around(t *testing.T, ring []api.Point, p api.Point) int {
	t.Helper()
	odd := 0
	lines := []api.Point{at(1001, 1), at(-1001, 1), at(1, 1001), at(-1, -1001), at(1001, -1000), at(-999, 1000)}
	for _, far := range lines {
		met := 0
		for i, a := range ring {
			b := ring[(i+1)%len(ring)]
			if slices.Contains(lattice(a, b), p) {
				return 0
			}
			if meet, _ := shared(p, at(p.X+far.X, p.Y+far.Y), a, b); meet {
				met++
			}
		}
		odd += met % 2
	}
	if odd > 0 && odd < len(lines) {
		t.Fatalf("the lines from %v don't tell the same of %v", p, ring)
	}
	return min(odd, 1)*2 - 1
}

func TestMay(t *testing.T) { // P8.1
	for _, p := range far() {
		if !geom.May(p) || !geom.MayRect(rect(p.X, p.Y, p.X, p.Y)) || !geom.MayRect(rect(p.X, p.Y, api.MaxX, api.MaxY)) || !geom.MayRect(rect(-api.MaxX, -api.MaxY, p.X, p.Y)) {
			t.Errorf("%v may not be", p)
		}
	}
	for _, p := range beyond() {
		if geom.May(p) {
			t.Errorf("%v may be", p)
		}
	}
	for _, r := range noRects() {
		if geom.MayRect(r) {
			t.Errorf("%v may be", r)
		}
	}
}

func TestTurn(t *testing.T) { // P8.1
	if geom.Turn(at(0, 0), at(1, 0), at(0, 1)) != 1 || geom.Turn(at(0, 0), at(0, 1), at(1, 0)) != -1 || geom.Turn(at(0, 0), at(1, 1), at(-3, -3)) != 0 {
		t.Error("left is 1, right is -1, a line is 0")
	}
	for _, a := range far() {
		for _, b := range far() {
			for _, c := range far() {
				if got, want := geom.Turn(a, b, c), model(a, b, c); got != want {
					t.Fatalf("Turn(%v, %v, %v): %d, want %d", a, b, c, got, want)
				}
			}
		}
	}
	r := rand.New(rand.NewSource(1))
	for range 20000 {
		a, b := chance(r), chance(r)
		middle := at((a.X+b.X)/2, (a.Y+b.Y)/2) // on the line, or all but on it
		for _, c := range []api.Point{chance(r), middle, a, b} {
			if got, want := geom.Turn(a, b, c), model(a, b, c); got != want {
				t.Fatalf("Turn(%v, %v, %v): %d, want %d", a, b, c, got, want)
			}
		}
	}
}

func TestOn(t *testing.T) { // P8.1
	for _, move := range moved() {
		for _, a := range grid(0, 3) {
			for _, b := range grid(0, 3) {
				l := lattice(a, b)
				for _, p := range grid(0, 3) {
					if got, want := geom.On(move(a), move(b), move(p)), slices.Contains(l, p); got != want {
						t.Errorf("On(%v, %v, %v): %t", move(a), move(b), move(p), got)
					}
				}
			}
		}
	}
	least, most := at(-api.MaxX, -api.MaxY), at(api.MaxX, api.MaxY)
	for _, p := range far() {
		if got, want := geom.On(least, most, p), p.X == 2*p.Y; got != want {
			t.Errorf("On from end to end, of %v: %t", p, got)
		}
	}
	if geom.On(least, at(0, 0), at(2, 1)) || geom.On(at(0, 0), most, at(-2, -1)) {
		t.Error("what is on the line, but not between the ends, is on the edge")
	}
}

func TestMeetAndCross(t *testing.T) { // P8.1, P8.4
	for _, move := range moved() {
		for _, a := range grid(0, 3) {
			for _, b := range grid(0, 3) {
				for _, c := range grid(0, 3) {
					for _, d := range grid(0, 3) {
						meet, cross := shared(a, b, c, d)
						if got := geom.Meet(move(a), move(b), move(c), move(d)); got != meet {
							t.Fatalf("Meet(%v, %v, %v, %v): %t", move(a), move(b), move(c), move(d), got)
						}
						if got := geom.Cross(move(a), move(b), move(c), move(d)); got != cross {
							t.Fatalf("Cross(%v, %v, %v, %v): %t", move(a), move(b), move(c), move(d), got)
						}
					}
				}
			}
		}
	}
}

func TestMeetAndCrossOfExamples(t *testing.T) { // P8.1
	for _, c := range []struct {
		a, b, c, d  api.Point
		meet, cross bool
	}{
		{at(0, 0), at(2, 2), at(0, 2), at(2, 0), true, true},
		{at(0, 0), at(2, 0), at(2, 0), at(3, 5), true, false},
		{at(-api.MaxX, -api.MaxY), at(api.MaxX, api.MaxY), at(-api.MaxX, api.MaxY), at(api.MaxX, -api.MaxY), true, true},
		{at(-api.MaxX, -api.MaxY), at(api.MaxX, api.MaxY), at(0, 0), at(0, 0), true, false},
		{at(-api.MaxX, -api.MaxY), at(api.MaxX, api.MaxY), at(1, 0), at(1, 0), false, false},
		{at(-api.MaxX, -api.MaxY), at(api.MaxX, api.MaxY), at(1, 0), at(api.MaxX, api.MaxY-1), false, false},
		{at(-api.MaxX, -api.MaxY), at(api.MaxX, api.MaxY), at(1, 0), at(api.MaxX-1, api.MaxY), true, true},
		{at(-api.MaxX, -api.MaxY), at(api.MaxX-1, api.MaxY), at(0, 0), at(api.MaxX, 0), false, false}, // the edge goes by at -1/2
		{at(-api.MaxX, -api.MaxY), at(api.MaxX-1, api.MaxY), at(-1, 0), at(api.MaxX, 0), true, true},
	} {
		if got := geom.Meet(c.a, c.b, c.c, c.d); got != c.meet {
			t.Errorf("Meet of %v: %t", c, got)
		}
		if got := geom.Cross(c.a, c.b, c.c, c.d); got != c.cross {
			t.Errorf("Cross of %v: %t", c, got)
		}
	}
}

// wantSame fails, if it hangs on which edge, or which end, comes first, whether edges meet or cross.
func wantSame(t *testing.T, a, b, c, d api.Point) {
	t.Helper()
	meet, cross := geom.Meet(a, b, c, d), geom.Cross(a, b, c, d)
	for _, p := range [][4]api.Point{{b, a, c, d}, {a, b, d, c}, {b, a, d, c}, {c, d, a, b}, {d, c, a, b}, {c, d, b, a}, {d, c, b, a}} {
		if geom.Meet(p[0], p[1], p[2], p[3]) != meet || geom.Cross(p[0], p[1], p[2], p[3]) != cross {
			t.Errorf("Meet or Cross of %v is another one than of %v, %v, %v, %v", p, a, b, c, d)
		}
	}
	if cross && !meet {
		t.Errorf("edges cross that don't meet: %v, %v, %v, %v", a, b, c, d)
	}
}

func TestMeetFromBothSides(t *testing.T) { // P8.4
	r := rand.New(rand.NewSource(2))
	ends := far()
	for range 20000 {
		a, b, c, d := chance(r), chance(r), chance(r), chance(r)
		wantSame(t, a, b, c, d)
		wantSame(t, a, b, at((a.X+b.X)/2, (a.Y+b.Y)/2), d)
		wantSame(t, ends[r.Intn(len(ends))], ends[r.Intn(len(ends))], ends[r.Intn(len(ends))], ends[r.Intn(len(ends))])
	}
}

// wantInside fails, if Inside tells something else of a ring with small coordinates, wherever it is laid, begins, and goes.
func wantInside(t *testing.T, ring []api.Point, p api.Point) {
	t.Helper()
	want := around(t, ring, p)
	for _, move := range moved() {
		if !geom.May(move(p)) { // it is beside the grid
			continue
		}
		var l []api.Point
		for _, q := range ring {
			l = append(l, move(q))
		}
		for range l {
			l = append(l[1:], l[0])
			if got := geom.Inside(l, move(p)); got != want {
				t.Fatalf("Inside(%v, %v): %d, want %d", l, move(p), got, want)
			}
		}
		slices.Reverse(l)
		if got := geom.Inside(l, move(p)); got != want {
			t.Fatalf("Inside(%v, %v): %d, want %d", l, move(p), got, want)
		}
	}
}

func TestInsideOfShortRings(t *testing.T) { // P8.2: also rings of one point, of two, and flat ones
	for _, p := range grid(-1, 3) {
		for _, a := range grid(0, 2) {
			wantInside(t, []api.Point{a}, p)
			for _, b := range grid(0, 2) {
				wantInside(t, []api.Point{a, b}, p)
				for _, c := range grid(0, 2) {
					wantInside(t, []api.Point{a, b, c}, p)
				}
			}
		}
	}
}

func TestInsideOfAnyRings(t *testing.T) { // P8.2: also rings that go over themselves
	r := rand.New(rand.NewSource(3))
	l := grid(0, 3)
	told := map[int]int{}
	for range 3000 {
		ring := make([]api.Point, 1+r.Intn(12))
		for i := range ring {
			ring[i] = l[r.Intn(len(l))]
		}
		for _, p := range grid(-1, 4) {
			wantInside(t, ring, p)
			told[geom.Inside(ring, p)]++
		}
	}
	for side := -1; side <= 1; side++ {
		if told[side] < 1000 {
			t.Errorf("%d was told just %d times", side, told[side])
		}
	}
}

func TestInsideOfExamples(t *testing.T) { // P8.2
	square := []api.Point{at(0, 0), at(10, 0), at(10, 10), at(0, 10)}
	for p, want := range map[api.Point]int{at(5, 5): 1, at(0, 5): 0, at(11, 5): -1, at(-1, 5): -1, at(-1, 0): -1, at(-1, 10): -1, at(0, 0): 0, at(10, 10): 0, at(5, 10): 0, at(5, 11): -1, at(5, -1): -1, at(9, 9): 1, at(1, 1): 1} {
		if got := geom.Inside(square, p); got != want {
			t.Errorf("Inside of the square, of %v: %d, want %d", p, got, want)
		}
	}
	twice := append(slices.Clone(square), square...) // each line away meets all edges an even number of times
	if got := geom.Inside(twice, at(5, 5)); got != -1 {
		t.Errorf("Inside of what goes round twice: %d", got)
	}
	half := []api.Point{at(-api.MaxX, -api.MaxY), at(api.MaxX, api.MaxY), at(-api.MaxX, api.MaxY)}
	for p, want := range map[api.Point]int{at(0, 0): 0, at(1, 0): -1, at(-1, 0): 1, at(2, 1): 0, at(0, 1): 1, at(0, -1): -1, at(api.MaxX, -api.MaxY): -1, at(-api.MaxX, 0): 0, at(1-api.MaxX, api.MaxY-1): 1, at(api.MaxX-1, api.MaxY-1): -1} {
		if got := geom.Inside(half, p); got != want {
			t.Errorf("Inside of half the plane, of %v: %d, want %d", p, got, want)
		}
	}
	if geom.Inside(nil, at(0, 0)) != 0 || geom.Inside([]api.Point{}, at(0, 0)) != 0 {
		t.Error("Inside of no ring is not 0")
	}
}

func TestWhatMayNotBe(t *testing.T) { // P8.1 to P8.3: it is told 0 and false of, whichever argument it is
	o, right, up := at(0, 0), at(10, 0), at(0, 10)
	for _, p := range beyond() {
		if geom.Turn(p, right, up) != 0 || geom.Turn(o, p, up) != 0 || geom.Turn(o, right, p) != 0 {
			t.Errorf("Turn with %v", p)
		}
		if geom.On(p, o, o) || geom.On(o, p, o) || geom.On(p, p, p) || geom.On(p, at(-p.X, -p.Y), o) || geom.On(o, right, p) {
			t.Errorf("On with %v", p)
		}
		if geom.Meet(p, o, o, o) || geom.Meet(o, p, o, o) || geom.Meet(o, o, p, o) || geom.Meet(o, o, o, p) || geom.Meet(p, p, p, p) {
			t.Errorf("Meet with %v", p)
		}
		back := at(-p.X, -p.Y)
		for _, d := range []api.Point{right, up} { // one of them lies across
			behind := at(-d.X, -d.Y)
			if geom.Cross(p, back, d, behind) || geom.Cross(d, behind, p, back) || geom.Cross(p, behind, d, back) {
				t.Errorf("Cross with %v", p)
			}
		}
		for i := range 4 {
			ring := []api.Point{at(-20, -20), at(20, -20), at(20, 20), at(-20, 20)}
			ring[i] = p
			if geom.Inside(ring, o) != 0 || geom.Inside(ring, at(30, 30)) != 0 || geom.Inside(ring, p) != 0 {
				t.Errorf("Inside of %v", ring)
			}
			if box, there := geom.Bounds(ring); there || box != (api.Rect{}) {
				t.Errorf("Bounds(%v): %v, %t", ring, box, there)
			}
		}
		if geom.Inside([]api.Point{o, right, up}, p) != 0 {
			t.Errorf("Inside with %v", p)
		}
		if geom.Distance(p, o) != 0 || geom.Distance(o, p) != 0 || geom.Nearest(rect(0, 0, 1, 1), p) != 0 || geom.Holds(rect(-api.MaxX, -api.MaxY, api.MaxX, api.MaxY), p) {
			t.Errorf("Distance, Nearest or Holds with %v", p)
		}
	}
}

func TestRectsThatMayNotBe(t *testing.T) { // P8.3
	whole := rect(-api.MaxX, -api.MaxY, api.MaxX, api.MaxY)
	for _, r := range noRects() {
		if geom.Overlap(r, whole) || geom.Overlap(whole, r) || geom.Overlap(r, r) {
			t.Errorf("Overlap with %v", r)
		}
		if geom.Join(r, whole) != (api.Rect{}) || geom.Join(whole, r) != (api.Rect{}) || geom.Join(r, r) != (api.Rect{}) {
			t.Errorf("Join with %v", r)
		}
		for _, p := range far() {
			if geom.Holds(r, p) || geom.Nearest(r, p) != 0 {
				t.Errorf("Holds or Nearest of %v, %v", r, p)
			}
		}
	}
}

// apart is Distance by great numbers.
func apart(x, y int64) uint64 {
	sum := new(big.Int).Mul(big.NewInt(x), big.NewInt(x))
	sum.Add(sum, new(big.Int).Mul(big.NewInt(y), big.NewInt(y)))
	if !sum.IsUint64() {
		panic(sum)
	}
	return sum.Uint64()
}

func TestDistance(t *testing.T) { // P8.3
	if got := geom.Distance(at(-api.MaxX, -api.MaxY), at(api.MaxX, api.MaxY)); got != 16_200_000_000_000_000_000 {
		t.Errorf("the greatest Distance: %d", got)
	}
	if got := geom.Distance(at(3, 1), at(0, 5)); got != 25 {
		t.Errorf("Distance of 3 and 4: %d", got)
	}
	for _, a := range far() {
		for _, b := range far() {
			if got, want := geom.Distance(a, b), apart(a.X-b.X, a.Y-b.Y); got != want {
				t.Errorf("Distance(%v, %v): %d, want %d", a, b, got, want)
			}
		}
	}
}

func TestBounds(t *testing.T) { // P8.3
	for _, l := range [][]api.Point{nil, {}} {
		if box, there := geom.Bounds(l); there || box != (api.Rect{}) {
			t.Errorf("Bounds of nothing: %v, %t", box, there)
		}
	}
	r := rand.New(rand.NewSource(4))
	for range 2000 {
		l := make([]api.Point, 1+r.Intn(6))
		var x, y []int64
		for i := range l {
			l[i] = chance(r)
			x, y = append(x, l[i].X), append(y, l[i].Y)
		}
		before := slices.Clone(l)
		box, there := geom.Bounds(l)
		if want := rect(slices.Min(x), slices.Min(y), slices.Max(x), slices.Max(y)); !there || box != want {
			t.Errorf("Bounds(%v): %v, %t, want %v", l, box, there, want)
		}
		if !slices.Equal(l, before) {
			t.Errorf("Bounds has changed %v", before)
		}
	}
}

// held are the whole points of a small rect.
func held(r api.Rect) []api.Point {
	return slices.DeleteFunc(grid(0, 2), func(p api.Point) bool {
		return p.X < r.MinX || p.X > r.MaxX || p.Y < r.MinY || p.Y > r.MaxY
	})
}

// smallRects are all that may be from (0, 0) to (2, 2).
func smallRects() []api.Rect {
	var l []api.Rect
	for _, a := range grid(0, 2) {
		for _, b := range grid(0, 2) {
			if a.X <= b.X && a.Y <= b.Y {
				l = append(l, rect(a.X, a.Y, b.X, b.Y))
			}
		}
	}
	return l
}

func TestHoldsAndNearest(t *testing.T) { // P8.3, P8.4
	for _, r := range smallRects() {
		l := held(r)
		for _, p := range grid(-2, 4) {
			if got, want := geom.Holds(r, p), slices.Contains(l, p); got != want {
				t.Errorf("Holds(%v, %v): %t", r, p, got)
			}
			want := uint64(math.MaxUint64)
			for _, q := range l {
				want = min(want, geom.Distance(p, q))
			}
			if got := geom.Nearest(r, p); got != want {
				t.Errorf("Nearest(%v, %v): %d, want %d", r, p, got, want)
			}
		}
	}
	for _, c := range []struct {
		r    api.Rect
		p    api.Point
		want uint64
	}{
		{rect(api.MaxX, api.MaxY, api.MaxX, api.MaxY), at(-api.MaxX, -api.MaxY), 16_200_000_000_000_000_000},
		{rect(-api.MaxX, -api.MaxY, api.MaxX, -api.MaxY), at(5, api.MaxY), 3_240_000_000_000_000_000},
		{rect(-api.MaxX, -api.MaxY, api.MaxX, api.MaxY), at(api.MaxX, api.MaxY), 0},
	} {
		if got := geom.Nearest(c.r, c.p); got != c.want {
			t.Errorf("Nearest(%v, %v): %d, want %d", c.r, c.p, got, c.want)
		}
	}
}

func TestNearestIsNearest(t *testing.T) { // P8.4
	r := rand.New(rand.NewSource(5))
	for range 20000 {
		box, _ := geom.Bounds([]api.Point{chance(r), chance(r)})
		p, q := chance(r), at(box.MinX+r.Int63n(box.MaxX-box.MinX+1), box.MinY+r.Int63n(box.MaxY-box.MinY+1))
		if !geom.Holds(box, q) {
			t.Fatalf("%v does not hold %v", box, q)
		}
		near := geom.Nearest(box, p)
		if near > geom.Distance(p, q) || (near == 0) != geom.Holds(box, p) {
			t.Fatalf("Nearest(%v, %v): %d", box, p, near)
		}
		if want := apart(max(box.MinX-p.X, 0, p.X-box.MaxX), max(box.MinY-p.Y, 0, p.Y-box.MaxY)); near != want {
			t.Fatalf("Nearest(%v, %v): %d, want %d", box, p, near, want)
		}
	}
}

func TestOverlapAndJoin(t *testing.T) { // P8.3
	for _, r := range smallRects() {
		for _, s := range smallRects() {
			l := held(s)
			if got, want := geom.Overlap(r, s), slices.ContainsFunc(held(r), func(p api.Point) bool { return slices.Contains(l, p) }); got != want {
				t.Errorf("Overlap(%v, %v): %t", r, s, got)
			}
			want, _ := geom.Bounds(append(held(r), l...))
			if got := geom.Join(r, s); got != want {
				t.Errorf("Join(%v, %v): %v, want %v", r, s, got, want)
			}
		}
	}
	left, right := rect(-api.MaxX, -api.MaxY, 0, 0), rect(0, 0, api.MaxX, api.MaxY)
	if !geom.Overlap(left, right) || geom.Overlap(left, rect(1, 0, 1, 0)) || geom.Overlap(rect(0, 1, 0, 1), left) {
		t.Error("Overlap of halves of the plane")
	}
	if geom.Join(left, right) != rect(-api.MaxX, -api.MaxY, api.MaxX, api.MaxY) {
		t.Error("Join of halves of the plane")
	}
}
