package hash_test

import (
	"math"
	"math/rand"
	"slices"
	"testing"

	"waywiser/api"
	"waywiser/geom"
	"waywiser/hash"
)

const whole = math.MaxUint64

func at(x, y int64) api.Point { return api.Point{X: x, Y: y} }

func rect(minX, minY, maxX, maxY int64) api.Rect {
	return api.Rect{MinX: minX, MinY: minY, MaxX: maxX, MaxY: maxY}
}

// corner is a place, counted from the least one on.
func corner(x, y int64) api.Point { return at(x-api.MaxX, y-api.MaxY) }

// part is a rect, counted likewise.
func part(minX, minY, maxX, maxY int64) api.Rect {
	return rect(minX-api.MaxX, minY-api.MaxY, maxX-api.MaxX, maxY-api.MaxY)
}

// beyond are points that may not be.
func beyond() []api.Point {
	return []api.Point{
		at(api.MaxX+1, 0), at(-api.MaxX-1, 0), at(0, api.MaxY+1), at(0, -api.MaxY-1), at(api.MaxX+1, api.MaxY+1), at(-api.MaxX-1, -api.MaxY-1),
		at(math.MaxInt64, 0), at(math.MinInt64, 0), at(0, math.MaxInt64), at(0, math.MinInt64), at(math.MinInt64, math.MinInt64), at(math.MaxInt64, math.MaxInt64), at(1<<32, 0), at(0, 1<<32),
	}
}

// chance is a point that may be.
func chance(r *rand.Rand) api.Point {
	return corner(r.Int63n(2*api.MaxX+1), r.Int63n(2*api.MaxY+1))
}

// number is a place's, bit by bit.
func number(p api.Point) uint64 {
	x, y, n := p.X+api.MaxX, p.Y+api.MaxY, uint64(0)
	for bit := 31; bit >= 0; bit-- {
		n = n*2 + uint64(x>>bit&1)
		n = n*2 + uint64(y>>bit&1)
	}
	return n
}

// wantCode holds Code and Place against one another, and against the bits.
func wantCode(t *testing.T, p api.Point) {
	t.Helper()
	code, is := hash.Code(p)
	if want := number(p); !is || code != want {
		t.Fatalf("Code(%v): %x, %t, want %x", p, code, is, want)
	}
	if back, is := hash.Place(code); !is || back != p {
		t.Fatalf("Place(%x): %v, %t, want %v", code, back, is, p)
	}
}

func TestCode(t *testing.T) { // P10.1
	for p, want := range map[api.Point]uint64{
		corner(0, 0): 0, corner(1, 0): 2, corner(0, 1): 1, corner(1, 1): 3, corner(2, 0): 8, corner(0, 2): 4, corner(3, 0): 10, corner(3, 5): 0b011011,
		corner(1<<31, 0): 1 << 63, corner(0, 1<<30): 1 << 60, corner(1<<30, 0): 1 << 61, corner(1<<31-1, 0): 0x2AAAAAAAAAAAAAAA, corner(0, 1<<30-1): 0x0555555555555555,
	} {
		if code, is := hash.Code(p); !is || code != want {
			t.Errorf("Code(%v): %x, %t, want %x", p, code, is, want)
		}
	}
	for _, x := range []int64{-api.MaxX, 1 - api.MaxX, -1, 0, 1, api.MaxX - 1, api.MaxX} {
		for _, y := range []int64{-api.MaxY, 1 - api.MaxY, -1, 0, 1, api.MaxY - 1, api.MaxY} {
			wantCode(t, at(x, y))
		}
	}
	for bit := range 32 {
		x, y := min(int64(1)<<bit, 2*api.MaxX), min(int64(1)<<bit, 2*api.MaxY)
		for _, p := range []api.Point{corner(x, 0), corner(0, y), corner(x, y), corner(x-1, y-1), corner(2*api.MaxX-x, 2*api.MaxY-y)} {
			wantCode(t, p)
		}
	}
	r := rand.New(rand.NewSource(1))
	for range 100000 {
		wantCode(t, chance(r))
	}
}

func TestCodeOfNoPlace(t *testing.T) { // P10.1
	for _, p := range beyond() {
		if code, is := hash.Code(p); is || code != 0 {
			t.Errorf("Code(%v): %x, %t", p, code, is)
		}
	}
}

func TestPlace(t *testing.T) { // P10.1
	for code, want := range map[uint64]api.Point{0: corner(0, 0), 1: corner(0, 1), 2: corner(1, 0), 3: corner(1, 1), 1 << 63: corner(1<<31, 0)} {
		if p, is := hash.Place(code); !is || p != want {
			t.Errorf("Place(%x): %v, %t, want %v", code, p, is, want)
		}
	}
	// numbers just beyond the ends, which number tells of points that may not be, too
	for _, code := range []uint64{whole, 1 << 62, number(corner(2*api.MaxX+1, 0)), number(corner(0, 2*api.MaxY+1)), number(corner(2*api.MaxX+1, 2*api.MaxY+1)), number(corner(1<<32-1, 0)), number(corner(0, 1<<32-1)), number(corner(1<<32-1, 5)), number(corner(5, 1<<31))} {
		if p, is := hash.Place(code); is || p != (api.Point{}) {
			t.Errorf("Place(%x): %v, %t", code, p, is)
		}
	}
	r := rand.New(rand.NewSource(2))
	there := 0
	for range 100000 {
		code := r.Uint64()
		p, is := hash.Place(code)
		if !is {
			if p != (api.Point{}) {
				t.Fatalf("Place(%x): %v and false", code, p)
			}
			continue
		}
		there++
		if back, is := hash.Code(p); !is || back != code {
			t.Fatalf("Code of Place of %x: %x, %t", code, back, is)
		}
	}
	if there < 30000 || there > 40000 { // 3.6 by 1.8 of 4.3 by 4.3
		t.Errorf("%d numbers of 100000 have a place", there)
	}
}

func TestCoverOfWhatMayNotBe(t *testing.T) { // P10.2
	good := rect(0, 0, 5, 5)
	for _, most := range []int{0, -1, math.MinInt, api.MaxCover + 1, math.MaxInt} {
		if l := hash.Cover(good, most); len(l) > 0 {
			t.Errorf("Cover of at most %d: %v", most, l)
		}
	}
	bad := []api.Rect{rect(1, 0, 0, 0), rect(0, 1, 0, 0), rect(1, 1, 0, 0), rect(api.MaxX, api.MaxY, -api.MaxX, -api.MaxY), rect(math.MinInt64, math.MinInt64, math.MaxInt64, math.MaxInt64)}
	for _, p := range beyond() {
		bad = append(bad, rect(p.X, p.Y, p.X, p.Y), rect(min(p.X, 0), min(p.Y, 0), max(p.X, 0), max(p.Y, 0)))
	}
	for _, r := range bad {
		for _, most := range []int{1, 7, api.MaxCover} {
			if l := hash.Cover(r, most); len(l) > 0 {
				t.Errorf("Cover(%v, %d): %v", r, most, l)
			}
		}
	}
}

func TestCoverOfOnePlace(t *testing.T) { // P10.2
	r := rand.New(rand.NewSource(3))
	l := []api.Point{at(0, 0), at(-1, -1), corner(0, 0), at(api.MaxX, api.MaxY), at(-api.MaxX, api.MaxY), at(api.MaxX, -api.MaxY)}
	for range 100 {
		l = append(l, chance(r))
	}
	for _, p := range l {
		for most := 1; most <= api.MaxCover; most++ {
			code := number(p)
			if got := hash.Cover(rect(p.X, p.Y, p.X, p.Y), most); !slices.Equal(got, []hash.Range{{Low: code, High: code}}) {
				t.Errorf("Cover of %v, at most %d: %x", p, most, got)
			}
		}
	}
}

func TestCover(t *testing.T) { // P10.2
	for _, c := range []struct {
		r    api.Rect
		most int
		want []hash.Range
	}{
		{rect(-api.MaxX, -api.MaxY, api.MaxX, api.MaxY), 1, []hash.Range{{0, whole}}},
		{rect(-api.MaxX, -api.MaxY, api.MaxX, api.MaxY), 2, []hash.Range{{0, 1<<62 - 1}, {2 << 62, 3<<62 - 1}}}, // the upper half has no place
		{rect(-api.MaxX, -api.MaxY, api.MaxX, api.MaxY), 7, []hash.Range{{0, 1<<62 - 1}, {2 << 62, 3<<62 - 1}}},
		{part(0, 0, 1, 1), 4, []hash.Range{{0, 3}}}, // four that follow one another
		{part(0, 0, 1, 1), 3, []hash.Range{{0, 3}}}, // one of the depth 31
		{part(0, 0, 1, 1), 1, []hash.Range{{0, 3}}},
		{part(0, 0, 1, 0), 2, []hash.Range{{0, 0}, {2, 2}}},
		{part(0, 0, 1, 0), 1, []hash.Range{{0, 3}}},
		{part(0, 0, 0, 1), 2, []hash.Range{{0, 1}}},
		{part(1, 0, 2, 0), 2, []hash.Range{{2, 2}, {8, 8}}},
		{part(1, 0, 2, 0), 1, []hash.Range{{0, 15}}},
		{part(1, 1, 2, 2), 4, []hash.Range{{3, 3}, {6, 6}, {9, 9}, {12, 12}}},
		{part(1, 1, 2, 2), 3, []hash.Range{{0, 15}}},
		{part(0, 0, 2, 0), 3, []hash.Range{{0, 0}, {2, 2}, {8, 8}}},
		{part(0, 0, 2, 0), 2, []hash.Range{{0, 3}, {8, 11}}},
		{part(0, 2, 3, 3), 8, []hash.Range{{4, 7}, {12, 15}}},
		{part(0, 0, 7, 7), 64, []hash.Range{{0, 63}}},
		{part(0, 0, 8, 7), 64, []hash.Range{{0, 63}, {128, 135}, {144, 151}}},
		{part(1<<31-1, 0, 1<<31, 0), 2, []hash.Range{{0x2AAAAAAAAAAAAAAA, 0x2AAAAAAAAAAAAAAA}, {1 << 63, 1 << 63}}},
		{part(1<<31-1, 0, 1<<31, 0), 1, []hash.Range{{0, whole}}},
		{part(0, 1<<30-1, 0, 1<<30), 1, []hash.Range{{0, 1<<62 - 1}}},
		{part(1<<31-1, 1<<30-1, 1<<31, 1<<30), 3, []hash.Range{{0, 1<<62 - 1}, {2 << 62, 3<<62 - 1}}},
	} {
		if got := hash.Cover(c.r, c.most); !slices.Equal(got, c.want) {
			t.Errorf("Cover(%v, %d): %x, want %x", c.r, c.most, got, c.want)
		}
	}
}

// cell is one of a depth: its least place, counted from the least one of all on, and how wide it is.
type cell struct{ x, y, wide int64 }

// quarters are the cells within it, one deeper, in the order of their numbers, that have a place of a rect's.
func (c cell) quarters(r api.Rect) []cell {
	half := c.wide / 2
	var out []cell
	for _, q := range []cell{{c.x, c.y, half}, {c.x, c.y + half, half}, {c.x + half, c.y, half}, {c.x + half, c.y + half, half}} {
		p := corner(q.x, q.y)
		if p.X <= r.MaxX && p.X+half > r.MinX && p.Y <= r.MaxY && p.Y+half > r.MinY {
			out = append(out, q)
		}
	}
	return out
}

// model is a cover by the chapter's words: cells are quartered, all at once, as often as there are not too many.
func model(r api.Rect, most int) []hash.Range {
	cells := []cell{{0, 0, 1 << 32}}
	for cells[0].wide > 1 {
		var next []cell
		for _, c := range cells {
			next = append(next, c.quarters(r)...)
		}
		if len(next) > most {
			break
		}
		cells = next
	}
	var out []hash.Range
	for _, c := range cells {
		low := number(corner(c.x, c.y))
		high := number(corner(c.x+c.wide-1, c.y+c.wide-1))
		if n := len(out); n > 0 && out[n-1].High == low-1 {
			out[n-1].High = high
		} else {
			out = append(out, hash.Range{Low: low, High: high})
		}
	}
	return out
}

// wantCover holds a cover against the model, and against what follows.
func wantCover(t *testing.T, r api.Rect, most int, places ...api.Point) {
	t.Helper()
	l := hash.Cover(r, most)
	if want := model(r, most); !slices.Equal(l, want) {
		t.Fatalf("Cover(%v, %d): %x, want %x", r, most, l, want)
	}
	if len(l) < 1 || len(l) > most {
		t.Fatalf("Cover(%v, %d): %d ranges", r, most, len(l))
	}
	for i, c := range l {
		if c.Low > c.High || i > 0 && (l[i-1].High >= c.Low || l[i-1].High+1 == c.Low) {
			t.Fatalf("Cover(%v, %d): %x", r, most, l)
		}
	}
	for _, p := range places {
		code, _ := hash.Code(p)
		if geom.Holds(r, p) && !slices.ContainsFunc(l, func(c hash.Range) bool { return c.Low <= code && code <= c.High }) {
			t.Fatalf("Cover(%v, %d) leaves out %v", r, most, p)
		}
	}
}

func TestCoverOfSmallRects(t *testing.T) { // P10.2, P10.3
	var places []api.Point
	for x := range int64(6) {
		for y := range int64(6) {
			places = append(places, corner(x, y))
		}
	}
	for _, a := range places {
		for _, b := range places {
			if a.X <= b.X && a.Y <= b.Y {
				for _, most := range []int{1, 2, 3, 4, 5, 8, 9, 15, 16, 36, 64} {
					wantCover(t, rect(a.X, a.Y, b.X, b.Y), most, places...)
				}
			}
		}
	}
}

func TestCoverByChance(t *testing.T) { // P10.2, P10.3
	r := rand.New(rand.NewSource(4))
	for range 20000 {
		a, far := chance(r), int64(1)<<r.Intn(33)
		b := at(min(a.X+r.Int63n(far), api.MaxX), min(a.Y+r.Int63n(far), api.MaxY))
		if r.Intn(10) == 0 {
			b.X = a.X // a rect that is not wide
		}
		box := rect(a.X, a.Y, b.X, b.Y)
		places := []api.Point{a, b, at(a.X, b.Y), at(b.X, a.Y)}
		for range 8 {
			places = append(places, at(a.X+r.Int63n(b.X-a.X+1), a.Y+r.Int63n(b.Y-a.Y+1)))
		}
		wantCover(t, box, 1+r.Intn(api.MaxCover), places...)
	}
}

func TestCoverAtTheEnds(t *testing.T) { // P10.2, P10.3
	x := []int64{-api.MaxX, 1 - api.MaxX, -1, 0, 1, 1<<31 - 1 - api.MaxX, 1<<31 - api.MaxX, api.MaxX - 1, api.MaxX}
	y := []int64{-api.MaxY, 1 - api.MaxY, -1, 0, 1, 1<<30 - 1 - api.MaxY, 1<<30 - api.MaxY, api.MaxY - 1, api.MaxY}
	for _, minX := range x {
		for _, maxX := range x {
			for _, minY := range y {
				for _, maxY := range y {
					if minX <= maxX && minY <= maxY {
						for _, most := range []int{1, 2, 4, 5, 63, 64} {
							wantCover(t, rect(minX, minY, maxX, maxY), most, at(minX, minY), at(maxX, maxY), at(minX, maxY), at(maxX, minY))
						}
					}
				}
			}
		}
	}
}

func TestCoversShareNothing(t *testing.T) { // R4, R5
	r := part(1, 1, 2, 2)
	a, b := hash.Cover(r, 4), hash.Cover(r, 4)
	want := slices.Clone(a)
	if !slices.Equal(a, b) {
		t.Fatalf("two answers: %x, %x", a, b)
	}
	a[0] = hash.Range{Low: 5, High: 6}
	if !slices.Equal(b, want) || !slices.Equal(hash.Cover(r, 4), want) {
		t.Error("answers share memory")
	}
}
