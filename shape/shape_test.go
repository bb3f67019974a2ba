package shape_test

import (
	"fmt"
	"math"
	"math/rand"
	"reflect"
	"slices"
	"testing"

	"waywiser/api"
	"waywiser/geom"
	"waywiser/shape"
)

func at(x, y int64) api.Point { return api.Point{X: x, Y: y} }

func rect(minX, minY, maxX, maxY int64) api.Rect {
	return api.Rect{MinX: minX, MinY: minY, MaxX: maxX, MaxY: maxY}
}

// row are points, by their coordinates.
func row(n ...int64) []api.Point {
	var l []api.Point
	for i := 0; i < len(n); i += 2 {
		l = append(l, at(n[i], n[i+1]))
	}
	return l
}

func spot(x, y int64) shape.Shape { return shape.Shape{Parts: [][]api.Point{{at(x, y)}}} }

func line(n ...int64) shape.Shape {
	return shape.Shape{Kind: shape.Line, Parts: [][]api.Point{row(n...)}}
}

func polygon(rings ...[]api.Point) shape.Shape {
	return shape.Shape{Kind: shape.Polygon, Parts: rings}
}

// square is a ring.
func square(least, most int64) []api.Point {
	return row(least, least, most, least, most, most, least, most)
}

// grid are the points from (least, least) to (most, most).
func grid(least, most int64) []api.Point {
	var l []api.Point
	for x := least; x <= most; x++ {
		for y := least; y <= most; y++ {
			l = append(l, at(x, y))
		}
	}
	return l
}

// round is a ring of so many places, no three on a line.
func round(n int, far float64) []api.Point {
	var l []api.Point
	for i := range n {
		angle := 2 * math.Pi * float64(i) / float64(n)
		l = append(l, at(int64(far*math.Cos(angle)), int64(far*math.Sin(angle))))
	}
	return l
}

// zigzag are so many places, none like the one ahead of it.
func zigzag(n int) []api.Point {
	var l []api.Point
	for i := range int64(n) {
		l = append(l, at(i/2, i%2))
	}
	return l
}

// moved are ways to lay the points from (0, 0) to (4, 4) elsewhere, so that all turns are as they were.
func moved() []func(p api.Point) api.Point {
	return []func(p api.Point) api.Point{
		func(p api.Point) api.Point { return p },
		func(p api.Point) api.Point { return at(p.X*(2*api.MaxX/4)-api.MaxX, p.Y*(2*api.MaxY/4)-api.MaxY) },
		func(p api.Point) api.Point { return at(p.X-api.MaxX, p.Y-api.MaxY) },
		func(p api.Point) api.Point { return at(p.X+api.MaxX-4, p.Y*(2*api.MaxY/4)-api.MaxY) },
		func(p api.Point) api.Point { return at(p.X*7-5, p.X*3+p.Y-4) },
	}
}

// laid is a shape whose places are laid elsewhere.
func laid(s shape.Shape, where func(p api.Point) api.Point) shape.Shape {
	out := shape.Shape{Kind: s.Kind}
	for _, part := range s.Parts {
		var l []api.Point
		for _, p := range part {
			l = append(l, where(p))
		}
		out.Parts = append(out.Parts, l)
	}
	return out
}

// noShapes are such as Read could not have told.
func noShapes() map[string]shape.Shape {
	parts := func(k shape.Kind, l ...[]api.Point) shape.Shape { return shape.Shape{Kind: k, Parts: l} }
	out := map[string]shape.Shape{
		"zeros":                        {},
		"no kind":                      parts(3, square(0, 9)),
		"no kind below 0":              parts(-1, row(1, 1)),
		"a great kind":                 parts(math.MaxInt, square(0, 9)),
		"a point without parts":        parts(shape.Spot),
		"a point without a place":      parts(shape.Spot, nil),
		"a point of two places":        parts(shape.Spot, row(1, 1, 2, 2)),
		"a point of two alike":         parts(shape.Spot, row(1, 1, 1, 1)),
		"a point of two parts":         parts(shape.Spot, row(1, 1), row(2, 2)),
		"a point and an empty part":    parts(shape.Spot, row(1, 1), nil),
		"a ring as a point":            parts(shape.Spot, square(0, 9)),
		"a line without parts":         parts(shape.Line),
		"a line without places":        parts(shape.Line, nil),
		"a line of one place":          parts(shape.Line, row(1, 1)),
		"a line of one place, twice":   parts(shape.Line, row(1, 1, 1, 1)),
		"a line with alike at its end": parts(shape.Line, row(1, 1, 2, 2, 2, 2)),
		"a line of two parts":          parts(shape.Line, row(1, 1, 2, 2), row(3, 3, 4, 4)),
		"a line that is too long":      parts(shape.Line, zigzag(api.MaxPoints+1)),
		"no rings":                     polygon(),
		"an empty ring":                polygon(nil),
		"an empty ring behind another": polygon(square(0, 9), nil),
		"a ring of one place":          polygon(row(1, 1)),
		"a ring of two places":         polygon(row(1, 1, 2, 2)),
		"a ring told with its end":     polygon(row(0, 0, 9, 0, 9, 9, 0, 0)),
		"a ring with two alike":        polygon(row(0, 0, 9, 0, 9, 0, 9, 9)),
		"a ring of one place, thrice":  polygon(row(1, 1, 1, 1, 1, 1)),
		"a flat ring":                  polygon(row(0, 0, 9, 0, 4, 0)),
		"a flat ring, all but one":     polygon(row(0, 0, 9, 0, 4, 0, 4, 4)),
		"a ring that comes back":       polygon(row(0, 0, 5, 0, 9, 0, 5, 0, 5, 5)),
		"a ring with a spike":          polygon(row(0, 0, 4, 0, 4, 4, 4, 9, 4, 4, 0, 4)),
		"a ring over itself":           polygon(row(0, 0, 9, 9, 9, 0, 0, 9)),
		"a ring that meets a place":    polygon(row(0, 0, 4, 4, 8, 0, 8, 8, 4, 4, 0, 8)),
		"a ring that meets an edge":    polygon(row(0, 0, 8, 0, 8, 8, 4, 0, 0, 8)),
		"a ring twice around":          polygon(append(square(0, 9), square(0, 9)...)),
		"a ring over itself, the last": polygon(square(0, 9), square(2, 3), row(0, 0, 9, 9, 9, 0, 0, 9)),
		"a ring of too many places":    polygon(round(api.MaxPoints, 1e8)),
		"rings of too many places":     polygon(round(127, 1e8), round(128, 5e7)),
		"too many rings":               polygon(slices.Repeat([][]api.Point{row(0, 0, 1, 0, 0, 1)}, 65)...),
		"very many rings":              polygon(slices.Repeat([][]api.Point{row(0, 0, 1, 0, 0, 1)}, 1<<16)...),
		"a ring of very many places":   polygon(zigzag(1 << 16)),
	}
	for _, p := range []api.Point{at(api.MaxX+1, 0), at(-api.MaxX-1, 0), at(0, api.MaxY+1), at(0, -api.MaxY-1), at(math.MaxInt64, math.MinInt64), at(math.MinInt64, math.MaxInt64)} {
		name := fmt.Sprint(", beyond, ", p)
		out["a point"+name] = spot(p.X, p.Y)
		out["a line"+name] = line(0, 0, p.X, p.Y)
		out["a line from"+name] = line(p.X, p.Y, 0, 0)
		out["a ring"+name] = polygon(row(0, 0, 9, 1, p.X, p.Y))
		out["a hole"+name] = polygon(square(0, 9), row(1, 1, 2, 1, p.X, p.Y))
	}
	return out
}

func TestOfNoShape(t *testing.T) { // P9.1, P9.2
	whole := shape.Of(rect(-api.MaxX, -api.MaxY, api.MaxX, api.MaxY))
	others := []shape.Shape{spot(1, 1), line(0, 0, 9, 9), polygon(square(0, 9)), whole}
	for name, s := range noShapes() {
		if v := shape.Tell(s); v != nil {
			t.Errorf("%s: Tell: %v", name, v)
		}
		if box := shape.Box(s); box != (api.Rect{}) {
			t.Errorf("%s: Box: %v", name, box)
		}
		for _, p := range append(grid(0, 2), at(api.MaxX+1, 0)) {
			if shape.In(s, p) {
				t.Errorf("%s: In %v", name, p)
			}
		}
		for _, other := range append(others, s) {
			if shape.Meet(s, other) || shape.Meet(other, s) || shape.Within(s, other) || shape.Within(other, s) {
				t.Errorf("%s: Meet or Within with %v", name, other)
			}
		}
	}
}

// product is twice the area of the triangle from (0, 0), with its sign.
func product(ux, uy, vx, vy int64) int64 { return ux*vy - uy*vx }

// lattice are the points of an edge with whole coordinates, of points with small ones.
func lattice(a, b api.Point) []api.Point {
	l := []api.Point{}
	for _, p := range grid(-1, 5) {
		if product(b.X-a.X, b.Y-a.Y, p.X-a.X, p.Y-a.Y) == 0 && (a.X-p.X)*(b.X-p.X) <= 0 && (a.Y-p.Y)*(b.Y-p.Y) <= 0 {
			l = append(l, p)
		}
	}
	return l
}

// both are the points with whole coordinates of two edges.
func both(a, b, c, d api.Point) []api.Point {
	on := lattice(c, d)
	return slices.DeleteFunc(lattice(a, b), func(p api.Point) bool { return !slices.Contains(on, p) })
}

// shared tells whether two edges have a point in common, and whether it is within both: how far along the edges their lines meet, else, where these don't or are the same, which whole points are on both.
func shared(a, b, c, d api.Point) (meet, cross bool) {
	whole := product(b.X-a.X, b.Y-a.Y, d.X-c.X, d.Y-c.Y)
	if whole == 0 {
		return len(both(a, b, c, d)) > 0, false
	}
	first := product(c.X-a.X, c.Y-a.Y, d.X-c.X, d.Y-c.Y)
	second := product(c.X-a.X, c.Y-a.Y, b.X-a.X, b.Y-a.Y)
	if whole < 0 {
		whole, first, second = -whole, -first, -second
	}
	meet = 0 <= first && first <= whole && 0 <= second && second <= whole
	return meet, 0 < first && first < whole && 0 < second && second < whole
}

// edge is one, by its ends.
type edge struct{ a, b api.Point }

// around are the edges of places one behind the other, and back to the first one.
func around(l []api.Point) []edge {
	var out []edge
	for i := range l {
		out = append(out, edge{l[i], l[(i+1)%len(l)]})
	}
	return out
}

// edges are those of a shape.
func edges(s shape.Shape) []edge {
	var out []edge
	for _, part := range s.Parts {
		l := around(part)
		if s.Kind == shape.Line {
			l = l[:len(l)-1]
		}
		out = append(out, l...)
	}
	return out
}

// simple tells by the chapter's words whether a ring of small coordinates is.
func simple(ring []api.Point) bool {
	l := around(ring)
	n := len(l)
	for i, e := range l {
		if e.a == e.b {
			return false
		}
		for j := range i {
			meet, _ := shared(l[j].a, l[j].b, e.a, e.b)
			if j == i-1 || j == 0 && i == n-1 {
				meet = len(both(l[j].a, l[j].b, e.a, e.b)) != 1
			}
			if meet {
				return false
			}
		}
	}
	return true
}

// inModel is In by the chapter's words: a line that goes through no whole point goes far away.
func inModel(s shape.Shape, p api.Point) bool {
	for _, e := range edges(s) {
		if slices.Contains(lattice(e.a, e.b), p) {
			return true
		}
	}
	odd := 0
	for _, ring := range s.Parts {
		met := 0
		for _, e := range around(ring) {
			if meet, _ := shared(p, at(p.X+1001, p.Y+1), e.a, e.b); meet {
				met++
			}
		}
		odd += met % 2
	}
	return s.Kind == shape.Polygon && odd%2 == 1
}

// meetModel is Meet by the chapter's words.
func meetModel(s, t shape.Shape) bool {
	for _, e := range edges(s) {
		for _, f := range edges(t) {
			if meet, _ := shared(e.a, e.b, f.a, f.b); meet {
				return true
			}
		}
	}
	return inModel(s, t.Parts[0][0]) || inModel(t, s.Parts[0][0])
}

// withinModel is Within by the chapter's words.
func withinModel(s, t shape.Shape) bool {
	if t.Kind != shape.Polygon {
		return false
	}
	for _, e := range edges(s) {
		if !inModel(t, e.a) || !inModel(t, e.b) {
			return false
		}
		for _, f := range edges(t) {
			if _, cross := shared(e.a, e.b, f.a, f.b); cross {
				return false
			}
		}
		x, y := e.a.X+e.b.X, e.a.Y+e.b.Y
		if x%2 == 0 && y%2 == 0 && !inModel(t, at(x/2, y/2)) {
			return false
		}
	}
	return true
}

// ring is a simple one by chance.
func ring(r *rand.Rand) []api.Point {
	for {
		l := make([]api.Point, 3+r.Intn(5))
		for i := range l {
			l[i] = at(r.Int63n(5), r.Int63n(5))
		}
		if simple(l) {
			return l
		}
	}
}

// chance is a shape by chance, from (0, 0) to (4, 4).
func chance(r *rand.Rand) shape.Shape {
	switch r.Intn(5) {
	case 0:
		return spot(r.Int63n(5), r.Int63n(5))
	case 1:
		l := []api.Point{at(r.Int63n(5), r.Int63n(5))}
		for n := 2 + r.Intn(3); len(l) < n; {
			if p := at(r.Int63n(5), r.Int63n(5)); p != l[len(l)-1] {
				l = append(l, p)
			}
		}
		return shape.Shape{Kind: shape.Line, Parts: [][]api.Point{l}}
	case 2:
		return polygon(ring(r), ring(r))
	case 3:
		return polygon(square(0, 4), ring(r), ring(r))
	}
	return polygon(ring(r))
}

func TestBox(t *testing.T) { // P9.2
	for _, c := range []struct {
		s    shape.Shape
		want api.Rect
	}{
		{spot(3, -4), rect(3, -4, 3, -4)},
		{spot(0, 0), rect(0, 0, 0, 0)},
		{line(5, 1, -2, 7, 0, 0), rect(-2, 0, 5, 7)},
		{polygon(row(1, 2, 9, 3, 4, 8)), rect(1, 2, 9, 8)},
		{polygon(square(0, 3), square(5, 7)), rect(0, 0, 7, 7)},
		{polygon(square(2, 3), square(0, 9)), rect(0, 0, 9, 9)},
		{line(-api.MaxX, api.MaxY, api.MaxX, -api.MaxY), rect(-api.MaxX, -api.MaxY, api.MaxX, api.MaxY)},
		{polygon(row(-api.MaxX, 0, api.MaxX, -api.MaxY, api.MaxX, api.MaxY)), rect(-api.MaxX, -api.MaxY, api.MaxX, api.MaxY)},
	} {
		if got := shape.Box(c.s); got != c.want {
			t.Errorf("Box(%v): %v, want %v", c.s, got, c.want)
		}
	}
	r := rand.New(rand.NewSource(1))
	for range 2000 {
		s := chance(r)
		want, _ := geom.Bounds(slices.Concat(s.Parts...))
		if got := shape.Box(s); got != want {
			t.Errorf("Box(%v): %v, want %v", s, got, want)
		}
	}
}

func TestOf(t *testing.T) { // P9.2
	s := shape.Of(rect(-1, 2, 3, 7))
	if want := polygon(row(-1, 2, 3, 2, 3, 7, -1, 7)); !reflect.DeepEqual(s, want) {
		t.Errorf("Of: %v, want %v", s, want)
	}
	whole := rect(-api.MaxX, -api.MaxY, api.MaxX, api.MaxY)
	for _, r := range []api.Rect{rect(-1, 2, 3, 7), rect(0, 0, 1, 1), whole, rect(api.MaxX-1, api.MaxY-1, api.MaxX, api.MaxY)} {
		s := shape.Of(r)
		if ring := s.Parts[0]; len(s.Parts) != 1 || len(ring) != 4 || geom.Turn(ring[0], ring[1], ring[2]) != 1 || geom.Turn(ring[2], ring[3], ring[0]) != 1 || ring[0] != at(r.MinX, r.MinY) {
			t.Errorf("Of(%v): %v", r, s)
		}
		if shape.Box(s) != r || shape.Tell(s) == nil || !shape.Within(s, s) {
			t.Errorf("Of(%v) is %v", r, s)
		}
	}
	for _, r := range []api.Rect{
		{}, rect(1, 0, 1, 5), rect(0, 1, 5, 1), rect(2, 2, 2, 2), rect(3, 0, 1, 5), rect(0, 3, 5, 1), rect(3, 3, 1, 1),
		rect(0, 0, api.MaxX+1, 1), rect(-api.MaxX-1, 0, 0, 1), rect(0, 0, 1, api.MaxY+1), rect(0, -api.MaxY-1, 1, 0), rect(math.MinInt64, math.MinInt64, math.MaxInt64, math.MaxInt64),
	} {
		if s := shape.Of(r); s.Kind != 0 || s.Parts != nil {
			t.Errorf("Of(%v): %v", r, s)
		}
	}
}

func TestIn(t *testing.T) { // P9.2
	holed := polygon(square(0, 10), square(4, 6))
	twice := polygon(square(0, 10), square(0, 10))
	apart := polygon(square(0, 2), square(5, 9))
	over := polygon(square(0, 6), square(3, 9))
	for _, c := range []struct {
		s    shape.Shape
		p    api.Point
		want bool
	}{
		{spot(1, 2), at(1, 2), true}, {spot(1, 2), at(2, 1), false}, {spot(1, 2), at(1, 3), false}, {spot(0, 0), at(0, 0), true},
		{line(0, 0, 4, 2), at(2, 1), true}, {line(0, 0, 4, 2), at(4, 2), true}, {line(0, 0, 4, 2), at(6, 3), false}, {line(0, 0, 4, 2), at(2, 2), false},
		{line(0, 0, 4, 0, 4, 4), at(4, 3), true}, {line(0, 0, 4, 0, 4, 4), at(2, 2), false}, {line(0, 0, 4, 0, 4, 4), at(3, 1), false},
		{line(0, 0, 9, 0, 9, 9, 0, 9, 0, 0), at(5, 5), false}, {line(0, 0, 9, 0, 9, 9, 0, 9, 0, 0), at(0, 5), true},
		{polygon(square(0, 10)), at(5, 5), true}, {polygon(square(0, 10)), at(0, 5), true}, {polygon(square(0, 10)), at(0, 10), true}, {polygon(square(0, 10)), at(11, 5), false}, {polygon(square(0, 10)), at(-1, 0), false},
		{holed, at(5, 5), false}, {holed, at(4, 5), true}, {holed, at(6, 6), true}, {holed, at(3, 5), true}, {holed, at(0, 0), true}, {holed, at(11, 5), false},
		{twice, at(5, 5), false}, {twice, at(0, 5), true}, {twice, at(11, 5), false},
		{apart, at(1, 1), true}, {apart, at(7, 7), true}, {apart, at(3, 3), false}, {apart, at(5, 5), true},
		{over, at(1, 1), true}, {over, at(8, 8), true}, {over, at(4, 4), false}, {over, at(3, 4), true}, {over, at(6, 5), true}, {over, at(1, 8), false},
		{polygon(square(0, 9), square(1, 8), square(2, 7)), at(5, 5), true},
		{polygon(square(0, 9)), at(math.MinInt64, 0), false}, {line(0, 0, 9, 9), at(math.MaxInt64, math.MaxInt64), false}, {spot(0, 0), at(api.MaxX+1, 0), false},
	} {
		if got := shape.In(c.s, c.p); got != c.want {
			t.Errorf("In(%v, %v): %t", c.s, c.p, got)
		}
	}
	whole := shape.Of(rect(-api.MaxX, -api.MaxY, api.MaxX, api.MaxY))
	for _, p := range []api.Point{at(api.MaxX, api.MaxY), at(-api.MaxX, api.MaxY), at(0, 0), at(api.MaxX, 5)} {
		if !shape.In(whole, p) {
			t.Errorf("%v is not in the plane", p)
		}
	}
	for _, p := range []api.Point{at(api.MaxX+1, 0), at(0, api.MaxY+1), at(-api.MaxX-1, 0), at(math.MinInt64, math.MinInt64)} {
		if shape.In(whole, p) {
			t.Errorf("%v is in the plane", p)
		}
	}
}

func TestInByChance(t *testing.T) { // P9.2, P9.3
	r := rand.New(rand.NewSource(2))
	for i := range 1500 {
		s := chance(r)
		where := moved()[i%len(moved())]
		far := laid(s, where)
		for _, p := range grid(0, 4) {
			got := shape.In(far, where(p))
			if want := inModel(s, p); got != want {
				t.Fatalf("In(%v, %v), laid elsewhere: %t", s, p, got)
			}
			if got && !geom.Holds(shape.Box(far), where(p)) {
				t.Fatalf("%v is in %v, not in its box", where(p), far)
			}
		}
	}
}

func TestMeet(t *testing.T) { // P9.2
	holed := polygon(square(0, 10), square(3, 7))
	for _, c := range []struct {
		s, t shape.Shape
		want bool
	}{
		{spot(1, 2), spot(1, 2), true}, {spot(1, 2), spot(2, 1), false},
		{spot(1, 1), line(0, 0, 2, 2), true}, {spot(1, 0), line(0, 0, 2, 2), false}, {spot(3, 3), line(0, 0, 2, 2), false},
		{spot(5, 5), polygon(square(0, 10)), true}, {spot(10, 10), polygon(square(0, 10)), true}, {spot(11, 10), polygon(square(0, 10)), false},
		{spot(5, 5), holed, false}, {spot(3, 5), holed, true}, {spot(2, 5), holed, true},
		{line(0, 0, 2, 2), line(0, 2, 2, 0), true}, {line(0, 0, 2, 2), line(2, 2, 5, 3), true}, {line(0, 0, 4, 0), line(2, 0, 9, 0), true}, {line(0, 0, 4, 0), line(5, 0, 9, 0), false}, {line(0, 0, 4, 0), line(0, 1, 4, 1), false},
		{line(0, 0, 9, 0, 9, 9, 0, 9), line(2, 3, 2, 5), false}, {line(0, 0, 9, 0, 9, 9, 0, 9), line(-1, 5, 2, 5), false},
		{line(4, 4, 6, 6), holed, false}, {line(4, 4, 8, 8), holed, true}, {line(1, 1, 2, 2), holed, true}, {line(-5, -5, -1, -1), holed, false}, {line(-5, 5, 15, 5), holed, true}, {line(-1, 1, 1, -1), holed, true},
		{polygon(square(0, 4)), polygon(square(4, 8)), true}, {polygon(square(0, 4)), polygon(square(5, 8)), false}, {polygon(square(0, 9)), polygon(square(2, 3)), true}, {polygon(square(0, 4)), polygon(square(2, 6)), true},
		{polygon(square(4, 6)), holed, false}, {polygon(square(3, 7)), holed, true}, {polygon(square(1, 9)), holed, true}, {polygon(square(-5, 15)), holed, true},
		// of the first place alone it is asked whether it is in the other one
		{polygon(square(20, 22), square(4, 6)), polygon(square(0, 10)), false}, {polygon(square(4, 6), square(20, 22)), polygon(square(0, 10)), true},
		{spot(-api.MaxX, api.MaxY), line(api.MaxX, api.MaxY, -api.MaxX, api.MaxY), true},
	} {
		if shape.Meet(c.s, c.t) != c.want || shape.Meet(c.t, c.s) != c.want {
			t.Errorf("Meet(%v, %v) is not %t", c.s, c.t, c.want)
		}
	}
}

func TestWithin(t *testing.T) { // P9.2
	holed := polygon(square(0, 10), square(4, 6))
	bay := polygon(row(0, 0, 6, 0, 6, 6, 4, 6, 4, 2, 2, 2, 2, 6, 0, 6))
	wide := polygon(row(0, 0, 7, 0, 7, 6, 5, 6, 5, 2, 2, 2, 2, 6, 0, 6))
	for _, c := range []struct {
		s, t shape.Shape
		want bool
	}{
		{spot(5, 5), spot(5, 5), false}, {spot(1, 1), line(0, 0, 2, 2), false}, {line(0, 0, 2, 2), line(0, 0, 2, 2), false}, {polygon(square(0, 1)), line(0, 0, 1, 1), false},
		{spot(1, 1), holed, true}, {spot(0, 0), holed, true}, {spot(4, 5), holed, true}, {spot(5, 5), holed, false}, {spot(11, 5), holed, false},
		{line(1, 1, 3, 9), holed, true}, {line(1, 5, 9, 5), holed, false}, {line(1, 1, 15, 1), holed, false}, {line(0, 0, 10, 0), holed, true}, {line(0, 0, 4, 4), holed, true}, {line(4, 5, 6, 5), holed, false}, {line(4, 4, 6, 6), holed, false}, {line(4, 4, 4, 6), holed, true}, {line(1, 1, 3, 1, 3, 12), holed, false}, {line(12, 1, 3, 1, 3, 3), holed, false},
		{holed, holed, true}, {polygon(square(1, 2)), holed, true}, {polygon(square(4, 6)), holed, true}, {polygon(square(0, 10)), polygon(square(0, 10)), true}, {polygon(square(0, 10)), holed, true}, {polygon(square(3, 7)), holed, true}, {polygon(square(1, 9)), polygon(square(2, 8)), false}, {polygon(square(2, 8)), polygon(square(1, 9)), true},
		{polygon(square(1, 2), square(7, 9)), holed, true}, {polygon(square(1, 2), square(11, 13)), holed, false}, {polygon(square(1, 11)), holed, false},
		// halfway is outside
		{line(2, 6, 4, 6), bay, false}, {line(2, 4, 4, 4), bay, false}, {line(2, 4, 4, 6), bay, false}, {line(2, 2, 4, 2), bay, true}, {line(1, 6, 5, 6), bay, false},
		// that counts only if both sums are even
		{line(2, 5, 4, 6), bay, true}, {line(2, 6, 5, 6), wide, true}, {line(2, 4, 5, 5), wide, true}, {line(2, 5, 5, 5), wide, true},
		// edges cross
		{line(1, 5, 5, 5), bay, false}, {line(1, 5, 6, 4), bay, false}, {line(1, 4, 6, 3), wide, false},
	} {
		if got := shape.Within(c.s, c.t); got != c.want {
			t.Errorf("Within(%v, %v): %t", c.s, c.t, got)
		}
	}
	below := func(p api.Point) api.Point { return at(p.X-8, p.Y-9) } // the sums are below 0, some odd
	for s, want := range map[[4]int64]bool{{2, 6, 4, 6}: false, {2, 5, 4, 6}: true, {2, 4, 4, 4}: false, {2, 5, 4, 5}: false} {
		if got := shape.Within(laid(line(s[:]...), below), laid(bay, below)); got != want {
			t.Errorf("Within of %v, below 0: %t", s, got)
		}
	}
	whole := shape.Of(rect(-api.MaxX, -api.MaxY, api.MaxX, api.MaxY))
	if !shape.Within(line(-api.MaxX, -api.MaxY, api.MaxX, api.MaxY), whole) || !shape.Within(spot(api.MaxX, -api.MaxY), whole) || !shape.Within(whole, whole) {
		t.Error("Within the plane")
	}
}

func TestMeetAndWithinByChance(t *testing.T) { // P9.2, P9.3
	r := rand.New(rand.NewSource(3))
	met, within := 0, 0
	for i := range 6000 {
		a, b := chance(r), chance(r)
		where := moved()[i%2*2] // by ways that leave it as it is which sums are even
		s, u := laid(a, where), laid(b, where)
		if got, want := shape.Meet(s, u), meetModel(a, b); got != want || shape.Meet(u, s) != want {
			t.Fatalf("Meet(%v, %v), laid elsewhere: %t", a, b, got)
		}
		if got, want := shape.Within(s, u), withinModel(a, b); got != want {
			t.Fatalf("Within(%v, %v), laid elsewhere: %t", a, b, got)
		}
		if !shape.Meet(s, s) || s.Kind == shape.Polygon && len(s.Parts) == 1 && !shape.Within(s, s) {
			t.Fatalf("%v and itself", s)
		}
		if shape.Meet(s, u) {
			met++
			if !geom.Overlap(shape.Box(s), shape.Box(u)) {
				t.Fatalf("%v and %v meet, their boxes don't", s, u)
			}
		}
		if shape.Within(s, u) {
			within++
			if !shape.Meet(s, u) {
				t.Fatalf("%v is within %v, and does not meet it", s, u)
			}
		}
	}
	if met < 1000 || met > 5900 || within < 100 {
		t.Errorf("%d met, %d were within", met, within)
	}
}

func TestGreatShapes(t *testing.T) { // P9.2
	outer, inner := polygon(round(255, 8.1e8)), polygon(round(255, 8e8))
	if !shape.Within(inner, outer) || shape.Within(outer, inner) || !shape.Meet(inner, outer) || !shape.In(outer, at(0, 0)) || shape.In(outer, at(-8.1e8, 8.1e8)) {
		t.Error("rings of 255 places")
	}
	between := polygon(round(127, 8.1e8), round(127, 8e8))
	if shape.Meet(polygon(round(200, 5e8)), between) || shape.In(between, at(0, 0)) || !shape.In(between, at(8.05e8, 0)) {
		t.Error("a ring around another one")
	}
	l := shape.Shape{Kind: shape.Line, Parts: [][]api.Point{zigzag(api.MaxPoints)}}
	if shape.Box(l) != rect(0, 0, 127, 1) || !shape.Within(l, polygon(square(0, 127))) || !shape.Meet(l, spot(127, 1)) {
		t.Error("a line of 256 places")
	}
}

func TestShapesAreLeftAlone(t *testing.T) { // R4
	for _, s := range []shape.Shape{spot(1, 2), line(0, 0, 5, 5, 9, 0), polygon(square(0, 9), square(2, 4))} {
		before := laid(s, func(p api.Point) api.Point { return p })
		for i, part := range s.Parts {
			room := append(slices.Clone(part), at(77, 77), at(78, 78))
			s.Parts[i] = room[:len(part)]
		}
		shape.Tell(s)
		shape.Box(s)
		shape.In(s, at(3, 3))
		shape.Meet(s, s)
		shape.Within(s, s)
		if !reflect.DeepEqual(s, before) {
			t.Errorf("%v became %v", before, s)
		}
		for _, part := range s.Parts {
			if room := part[:len(part)+2]; room[len(part)] != at(77, 77) || room[len(part)+1] != at(78, 78) {
				t.Errorf("the room behind %v became %v", part, room)
			}
		}
	}
	a, b := shape.Of(rect(0, 0, 2, 2)), shape.Of(rect(0, 0, 2, 2))
	a.Parts[0][0] = at(9, 9)
	if b.Parts[0][0] != at(0, 0) {
		t.Error("two answers of Of share memory")
	}
}
