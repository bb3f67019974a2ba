package shape_test

import (
	"math/rand"
	"reflect"
	"strings"
	"testing"

	"waywiser/api"
	"waywiser/json"
	"waywiser/shape"
)

// value is that of a text.
func value(t *testing.T, text string) any {
	t.Helper()
	v, e := json.Parse([]byte(text))
	if e != api.OK {
		t.Fatalf("%s is no JSON text: %d", text, e)
	}
	return v
}

// geo is a value of a type, with coordinates.
func geo(kind, coordinates any) json.Object {
	return json.Object{{Name: "type", Value: kind}, {Name: "coordinates", Value: coordinates}}
}

// pair is a place, told.
func pair(x, y int64) json.List { return json.List{json.Num(x), json.Num(y)} }

// pairs are places, told one behind the other.
func pairs(l ...api.Point) json.List {
	out := json.List{}
	for _, p := range l {
		out = append(out, pair(p.X, p.Y))
	}
	return out
}

// closed is a ring, told with its first place once more.
func closed(l []api.Point) json.List { return append(pairs(l...), pair(l[0].X, l[0].Y)) }

// rings are the value of a polygon.
func rings(l ...[]api.Point) json.Object {
	out := json.List{}
	for _, ring := range l {
		out = append(out, closed(ring))
	}
	return geo("Polygon", out)
}

// wantNone fails, if Read tells a shape.
func wantNone(t *testing.T, v any, about string) {
	t.Helper()
	if s, e := shape.Read(v); e != api.ErrGeo || s.Kind != 0 || s.Parts != nil {
		t.Errorf("Read of %s: %v, %d", about, s, e)
	}
}

func TestRead(t *testing.T) { // P9.1
	const unit = api.Scale
	for text, want := range map[string]shape.Shape{
		`{"type":"Point","coordinates":[1.5,-2]}`:                                                spot(15000000, -20000000),
		`{"coordinates":[1.5,-2],"type":"Point"}`:                                                spot(15000000, -20000000),
		` { "type" : "\u0050oint" , "coordinates" : [ 0.0000001 , -1e-7 ] } `:                    spot(1, -1),
		`{"type":"Point","coordinates":[0,0]}`:                                                   spot(0, 0),
		`{"type":"Point","coordinates":[180,90]}`:                                                spot(api.MaxX, api.MaxY),
		`{"type":"Point","coordinates":[-180,-90]}`:                                              spot(-api.MaxX, -api.MaxY),
		`{"type":"LineString","coordinates":[[0,0],[1,1]]}`:                                      line(0, 0, unit, unit),
		`{"coordinates":[[0,0],[1,1],[0,0]],"type":"LineString"}`:                                line(0, 0, unit, unit, 0, 0),
		`{"type":"LineString","coordinates":[[0,0],[2,2],[2,0],[0,2],[0,0]]}`:                    line(0, 0, 2*unit, 2*unit, 2*unit, 0, 0, 2*unit, 0, 0),
		`{"type":"LineString","coordinates":[[-180,90],[180,90]]}`:                               line(-api.MaxX, api.MaxY, api.MaxX, api.MaxY),
		`{"type":"Polygon","coordinates":[[[0,0],[1,0],[0,1],[0,0]]]}`:                           polygon(row(0, 0, unit, 0, 0, unit)),
		`{"type":"Polygon","coordinates":[[[0,0],[0,1],[1,0],[0,0]]]}`:                           polygon(row(0, 0, 0, unit, unit, 0)),
		`{"coordinates":[[[0,0],[1,0],[1,1],[0,1],[0,0]]],"type":"Polygon"}`:                     polygon(square(0, unit)),
		`{"type":"Polygon","coordinates":[[[0,0],[1,0],[2,0],[2,2],[0,0]]]}`:                     polygon(row(0, 0, unit, 0, 2*unit, 0, 2*unit, 2*unit)),
		`{"type":"Polygon","coordinates":[[[-180,-90],[180,-90],[180,90],[-180,-90]]]}`:          polygon(row(-api.MaxX, -api.MaxY, api.MaxX, -api.MaxY, api.MaxX, api.MaxY)),
		`{"type":"Polygon","coordinates":[[[0,0],[3,0],[0,3],[0,0]],[[2,2],[2,1],[4,4],[2,2]]]}`: polygon(row(0, 0, 3*unit, 0, 0, 3*unit), row(2*unit, 2*unit, 2*unit, unit, 4*unit, 4*unit)),
		`{"type":"Polygon","coordinates":[[[0,0],[1,0],[0,1],[0,0]],[[0,0],[1,0],[0,1],[0,0]]]}`: polygon(row(0, 0, unit, 0, 0, unit), row(0, 0, unit, 0, 0, unit)),
	} {
		if s, e := shape.Read(value(t, text)); e != api.OK || !reflect.DeepEqual(s, want) {
			t.Errorf("Read(%s): %v, %d", text, s, e)
		}
	}
}

func TestReadOfNoShape(t *testing.T) { // P9.1
	for _, text := range []string{
		`null`, `true`, `1`, `"Point"`, `[]`, `{}`, `[0,0]`, `["Point",[0,0]]`, `[{"type":"Point","coordinates":[0,0]}]`,
		`{"type":"Point"}`, `{"coordinates":[0,0]}`, `{"type":"Point","coordinates":[0,0],"x":1}`, `{"crs":null,"type":"Point","coordinates":[0,0]}`, `{"type":"Point","x":[0,0]}`, `{"x":"Point","coordinates":[0,0]}`, `{"Type":"Point","coordinates":[0,0]}`, `{"type":"Point","Coordinates":[0,0]}`, `{"type":"Point","coordinates ":[0,0]}`,
		`{"type":"point","coordinates":[0,0]}`, `{"type":"Point ","coordinates":[0,0]}`, `{"type":"","coordinates":[0,0]}`, `{"type":"Spot","coordinates":[0,0]}`, `{"type":0,"coordinates":[0,0]}`, `{"type":null,"coordinates":[0,0]}`, `{"type":true,"coordinates":[0,0]}`, `{"type":["Point"],"coordinates":[0,0]}`, `{"type":{"type":"Point"},"coordinates":[0,0]}`, `{"type":"MultiPoint","coordinates":[[0,0]]}`, `{"type":"Feature","coordinates":[0,0]}`,
		`{"type":"Point","coordinates":null}`, `{"type":"Point","coordinates":1}`, `{"type":"Point","coordinates":"0,0"}`, `{"type":"Point","coordinates":{"x":0,"y":0}}`, `{"type":"Point","coordinates":[]}`, `{"type":"Point","coordinates":[0]}`, `{"type":"Point","coordinates":[0,0,0]}`, `{"type":"Point","coordinates":[[0,0]]}`, `{"type":"Point","coordinates":["0",0]}`, `{"type":"Point","coordinates":[0,null]}`, `{"type":"Point","coordinates":[0,[0]]}`, `{"type":"Point","coordinates":[false,0]}`, `{"type":"Point","coordinates":[[0,0],[1,1]]}`,
		`{"type":"Point","coordinates":[180.0000001,0]}`, `{"type":"Point","coordinates":[-180.0000001,0]}`, `{"type":"Point","coordinates":[0,90.0000001]}`, `{"type":"Point","coordinates":[0,-90.0000001]}`, `{"type":"Point","coordinates":[0,120]}`, `{"type":"Point","coordinates":[900000000000,0]}`,
		`{"type":"LineString","coordinates":[]}`, `{"type":"LineString","coordinates":[0,0]}`, `{"type":"LineString","coordinates":[[0,0]]}`, `{"type":"LineString","coordinates":[[0,0],[0,0]]}`, `{"type":"LineString","coordinates":[[0,0],[1,1],[1,1]]}`, `{"type":"LineString","coordinates":[[0,0],[0,0],[1,1]]}`, `{"type":"LineString","coordinates":[[0,0],[1,1,1]]}`, `{"type":"LineString","coordinates":[[0,0],[1]]}`, `{"type":"LineString","coordinates":[[0,0],1]}`, `{"type":"LineString","coordinates":[[0,0],null]}`, `{"type":"LineString","coordinates":[[0,0],[181,0]]}`, `{"type":"LineString","coordinates":[[0,91],[0,0]]}`, `{"type":"LineString","coordinates":[[[0,0],[1,1]]]}`, `{"type":"LineString","coordinates":{}}`, `{"type":"LineString","coordinates":[[0,0],{"x":1}]}`,
		`{"type":"Polygon","coordinates":[]}`, `{"type":"Polygon","coordinates":[0,0]}`, `{"type":"Polygon","coordinates":[[]]}`, `{"type":"Polygon","coordinates":[null]}`, `{"type":"Polygon","coordinates":{}}`, `{"type":"Polygon","coordinates":[[0,0],[1,0],[0,1],[0,0]]}`, `{"type":"Polygon","coordinates":[[[0,0]]]}`, `{"type":"Polygon","coordinates":[[[0,0],[0,0]]]}`, `{"type":"Polygon","coordinates":[[[0,0],[1,1],[0,0]]]}`, `{"type":"Polygon","coordinates":[[[0,0],[0,0],[0,0],[0,0]]]}`,
		// not closed
		`{"type":"Polygon","coordinates":[[[0,0],[1,0],[0,1]]]}`, `{"type":"Polygon","coordinates":[[[0,0],[1,0],[1,1],[0,1]]]}`, `{"type":"Polygon","coordinates":[[[0,0],[1,0],[1,1],[0,1],[0,0.0000001]]]}`, `{"type":"Polygon","coordinates":[[[0,0],[1,0],[0,1],[0,0]],[[0,0],[1,0],[0,1],[1,0]]]}`,
		// closed twice, one place twice
		`{"type":"Polygon","coordinates":[[[0,0],[1,0],[0,1],[0,0],[0,0]]]}`, `{"type":"Polygon","coordinates":[[[0,0],[0,0],[1,0],[0,1],[0,0]]]}`, `{"type":"Polygon","coordinates":[[[0,0],[1,0],[1,0],[0,1],[0,0]]]}`,
		// not simple
		`{"type":"Polygon","coordinates":[[[0,0],[2,2],[2,0],[0,2],[0,0]]]}`, `{"type":"Polygon","coordinates":[[[0,0],[1,1],[2,2],[0,0]]]}`, `{"type":"Polygon","coordinates":[[[0,0],[2,2],[1,1],[0,0]]]}`, `{"type":"Polygon","coordinates":[[[0,0],[2,0],[1,1],[2,2],[0,2],[1,1],[0,0]]]}`, `{"type":"Polygon","coordinates":[[[0,0],[2,0],[2,2],[1,0],[0,2],[0,0]]]}`, `{"type":"Polygon","coordinates":[[[0,0],[1,0],[0,1],[0,0]],[[0,0],[2,2],[2,0],[0,2],[0,0]]]}`,
		`{"type":"Polygon","coordinates":[[[0,0],[181,0],[0,1],[0,0]]]}`, `{"type":"Polygon","coordinates":[[[0,91],[1,0],[0,1],[0,91]]]}`, `{"type":"Polygon","coordinates":[[[0,0],[1,0],[0,"1"],[0,0]]]}`, `{"type":"Polygon","coordinates":[[[0,0],[1,0],[0,1,2],[0,0]]]}`, `{"type":"Polygon","coordinates":[[[[0,0],[1,0],[0,1],[0,0]]]]}`, `{"type":"Polygon","coordinates":[[[0,0],[1,0],[0,1],[0,0]],[]]}`,
	} {
		wantNone(t, value(t, text), text)
	}
}

func TestReadOfWhatMayNotBe(t *testing.T) { // P9.1, R1
	within := json.List{nil, nil}
	within[0], within[1] = within, within
	itself := json.Object{{Name: "type", Value: "Polygon"}, {Name: "coordinates"}}
	itself[1].Value = itself
	good := geo("Point", pair(1, 2))
	for about, v := range map[string]any{
		"a pointer": &good, "a list of Go's": []any{pair(1, 2)}, "a map": map[string]any{"type": "Point", "coordinates": pair(1, 2)}, "members": []json.Member(good), "itself": itself, "a function": func() {}, "nil members": json.Object(nil), "a number of Go's": 5,
		"a member twice":          json.Object{{Name: "type", Value: "Point"}, {Name: "type", Value: "Point"}},
		"a member twice, more":    append(geo("Point", pair(1, 2)), json.Member{Name: "type", Value: "Point"}),
		"bytes as the type":       geo([]byte("Point"), pair(1, 2)),
		"numbers of Go's":         geo("Point", json.List{1, 2}),
		"parts without a kind":    geo("Point", json.List{int64(1), int64(2)}),
		"fractions":               geo("Point", json.List{1.5, 2.5}),
		"a place of Go's":         geo("Point", []any{json.Num(1), json.Num(2)}),
		"a struct as the place":   geo("Point", api.Point{X: 1, Y: 2}),
		"no list":                 geo("Point", json.List(nil)),
		"no list, of a line":      geo("LineString", json.List(nil)),
		"no list, of a polygon":   geo("Polygon", json.List(nil)),
		"no ring":                 geo("Polygon", json.List{json.List(nil)}),
		"a number beyond":         geo("Point", pair(-1<<63, 1<<63-1)),
		"lists in themselves":     geo("Point", within),
		"lists, of a line":        geo("LineString", within),
		"lists, of a polygon":     geo("Polygon", within),
		"a text that is no UTF-8": geo("Point\xff", pair(1, 2)),
	} {
		wantNone(t, v, about)
	}
}

func TestReadOfSoManyPlaces(t *testing.T) { // P9.1
	wide := func(n int) json.Object { return geo("LineString", pairs(zigzag(n)...)) }
	for n, want := range map[int]bool{1: false, 2: true, 3: true, 255: true, api.MaxPoints: true, api.MaxPoints + 1: false, 1 << 14: false} {
		if s, e := shape.Read(wide(n)); (e == api.OK) != want || want && len(s.Parts[0]) != n {
			t.Errorf("a line of %d places: %d", n, e)
		}
	}
	triangle := row(0, 0, 1, 0, 0, 1)
	many := func(n int) (l [][]api.Point) {
		for range n {
			l = append(l, triangle)
		}
		return l
	}
	for _, c := range []struct {
		rings [][]api.Point
		want  bool
	}{ // each ring has a place more than it has here
		{many(1), true}, {many(64), true}, {many(65), false}, {many(1 << 12), false},
		{[][]api.Point{round(254, 1e8)}, true}, {[][]api.Point{round(255, 1e8)}, true}, {[][]api.Point{round(256, 1e8)}, false}, {[][]api.Point{round(257, 1e8)}, false},
		{[][]api.Point{round(127, 1e8), round(127, 2e8)}, true}, {[][]api.Point{round(127, 1e8), round(128, 2e8)}, false},
		{[][]api.Point{round(251, 1e8), triangle}, true}, {[][]api.Point{round(252, 1e8), triangle}, false}, {[][]api.Point{triangle, round(252, 1e8)}, false},
		{[][]api.Point{zigzag(1 << 14)}, false},
	} {
		s, e := shape.Read(rings(c.rings...))
		if (e == api.OK) != c.want || c.want && !reflect.DeepEqual(s, polygon(c.rings...)) {
			t.Errorf("a polygon of %d rings, the first one of %d places and one: %d", len(c.rings), len(c.rings[0]), e)
		}
	}
}

// wantSimple holds Read of a ring, laid elsewhere, against whether it is simple.
func wantSimple(t *testing.T, ring []api.Point, where func(p api.Point) api.Point) {
	t.Helper()
	far := laid(polygon(ring), where)
	s, e := shape.Read(rings(far.Parts[0]))
	if simple(ring) != (e == api.OK) || e != api.OK && e != api.ErrGeo || e == api.OK && !reflect.DeepEqual(s, far) {
		t.Fatalf("Read of the ring %v, laid elsewhere: %v, %d", ring, s, e)
	}
}

func TestReadOfRings(t *testing.T) { // P9.1
	small := grid(0, 2)
	var all func(l []api.Point, n int, where func(p api.Point) api.Point)
	all = func(l []api.Point, n int, where func(p api.Point) api.Point) {
		if n == 0 {
			wantSimple(t, l, where)
			return
		}
		for _, p := range small {
			all(append(l, p), n-1, where)
		}
	}
	for _, where := range moved() {
		all(nil, 3, where)
	}
	for n := range 5 {
		if n > 0 {
			all(nil, n, moved()[0])
		}
	}
	r := rand.New(rand.NewSource(4))
	for i := range 30000 {
		l := make([]api.Point, 4+r.Intn(5))
		for i := range l {
			l[i] = at(r.Int63n(5), r.Int63n(5))
		}
		wantSimple(t, l, moved()[i%len(moved())])
	}
	for range 3000 {
		l := ring(r) // and one that is simple, but for one place, perhaps
		wantSimple(t, l, moved()[0])
		l[r.Intn(len(l))] = at(r.Int63n(5), r.Int63n(5))
		wantSimple(t, l, moved()[1])
	}
}

func TestReadOfRingsAllButSimple(t *testing.T) { // P9.1, P5
	for _, c := range []struct {
		ring []api.Point
		want bool
	}{
		{row(-api.MaxX, -api.MaxY, api.MaxX, api.MaxY, 0, 1), true}, // as flat as can be
		{row(-api.MaxX, -api.MaxY, api.MaxX, api.MaxY, 0, 0), false},
		{row(-api.MaxX, -api.MaxY, 0, 0, api.MaxX, api.MaxY, 1, 0), true},
		{row(-api.MaxX, -api.MaxY, 1, 0, api.MaxX, api.MaxY, 2, 1), true},
		{row(-api.MaxX, -api.MaxY, api.MaxX, api.MaxY, api.MaxX, 0, 3, 1, 0, -api.MaxY), true},  // a place all but on an edge
		{row(-api.MaxX, -api.MaxY, api.MaxX, api.MaxY, api.MaxX, 0, 2, 1, 0, -api.MaxY), false}, // on it
		{row(-api.MaxX, -api.MaxY, api.MaxX, api.MaxY, api.MaxX, 0, 1, 1, 0, -api.MaxY), false}, // beyond
	} {
		if _, e := shape.Read(rings(c.ring)); (e == api.OK) != c.want {
			t.Errorf("Read of the ring %v: %d", c.ring, e)
		}
	}
}

func TestTell(t *testing.T) { // P9.1
	for _, c := range []struct {
		s    shape.Shape
		want string
	}{
		{spot(15000000, -20000000), `{"type":"Point","coordinates":[1.5,-2]}`},
		{spot(0, 0), `{"type":"Point","coordinates":[0,0]}`},
		{spot(api.MaxX, -api.MaxY), `{"type":"Point","coordinates":[180,-90]}`},
		{line(0, 0, 1, -1), `{"type":"LineString","coordinates":[[0,0],[0.0000001,-0.0000001]]}`},
		{line(0, 0, api.Scale, 0, 0, 0), `{"type":"LineString","coordinates":[[0,0],[1,0],[0,0]]}`},
		{polygon(square(0, api.Scale)), `{"type":"Polygon","coordinates":[[[0,0],[1,0],[1,1],[0,1],[0,0]]]}`},
		{polygon(row(0, 0, 1, 0, 0, 1), square(0, api.Scale)), `{"type":"Polygon","coordinates":[[[0,0],[0.0000001,0],[0,0.0000001],[0,0]],[[0,0],[1,0],[1,1],[0,1],[0,0]]]}`},
	} {
		v := shape.Tell(c.s)
		if text, e := json.Print(v); e != api.OK || string(text) != c.want {
			t.Errorf("Tell(%v): %s, %d, want %s", c.s, text, e, c.want)
		}
		if s, e := shape.Read(v); e != api.OK || !reflect.DeepEqual(s, c.s) {
			t.Errorf("Read of Tell of %v: %v, %d", c.s, s, e)
		}
	}
}

func TestThereAndBack(t *testing.T) { // P9.3
	r := rand.New(rand.NewSource(5))
	for i := range 5000 {
		s := laid(chance(r), moved()[i%len(moved())])
		v := shape.Tell(s)
		back, e := shape.Read(v)
		if e != api.OK || !reflect.DeepEqual(back, s) || !json.Same(shape.Tell(back), v) {
			t.Fatalf("Read of Tell of %v: %v, %d", s, back, e)
		}
		o := v.(json.Object)
		back, e = shape.Read(json.Object{o[1], o[0]})
		if e != api.OK || !reflect.DeepEqual(back, s) {
			t.Fatalf("Read of %v, coordinates first: %v, %d", s, back, e)
		}
	}
}

func TestReadByChance(t *testing.T) { // P9.1, P9.3, R1
	pieces := []string{`{"type":"Point","coordinates":[`, `"type":`, `"coordinates":`, "{", "}", "[", "]", ",", "0", "1", "2", "-1", "180", "181", `"Point"`, `"LineString"`, `"Polygon"`, "null", "[0,0]", "[1,0]", "[[0,0],[1,1]]"}
	seeds := []string{`{"type":"Point","coordinates":[1,2]}`, `{"type":"LineString","coordinates":[[0,0],[1,1],[2,0]]}`, `{"type":"Polygon","coordinates":[[[0,0],[2,0],[2,2],[0,0]],[[1,1],[2,1],[2,2],[1,1]]]}`}
	r := rand.New(rand.NewSource(6))
	shapes := 0
	for range 50000 {
		text := seeds[r.Intn(len(seeds))]
		for range 1 + r.Intn(2) {
			from := r.Intn(len(text))
			text = text[:from] + pieces[r.Intn(len(pieces))] + text[min(from+r.Intn(8), len(text)):]
		}
		v, e := json.Parse([]byte(text))
		if e != api.OK {
			continue
		}
		s, e := shape.Read(v)
		if e != api.OK {
			wantNone(t, v, text)
			continue
		}
		shapes++
		told, plain := shape.Tell(s), v.(json.Object)
		if plain[0].Name != "type" {
			plain[0], plain[1] = plain[1], plain[0]
		}
		if !json.Same(told, plain) {
			t.Fatalf("Read(%s): %v", text, s)
		}
	}
	if shapes < 100 {
		t.Errorf("just %d shapes", shapes)
	}
}

// changed changes all that is within a value.
func changed(v any) {
	switch x := v.(type) {
	case json.List:
		for i := range x {
			changed(x[i])
			x[i] = "changed"
		}
	case json.Object:
		for i := range x {
			changed(x[i].Value)
			x[i] = json.Member{Name: strings.Repeat("x", i+1)}
		}
	}
}

func TestMemory(t *testing.T) { // R4
	for _, want := range []shape.Shape{spot(1, 2), line(0, 0, 5, 5, 9, 0), polygon(square(0, 9), square(2, 4))} {
		v := shape.Tell(want)
		before := json.Copy(v)
		s, _ := shape.Read(v)
		other, _ := shape.Read(v)
		if !json.Same(v, before) {
			t.Errorf("Read has changed %v", before)
		}
		changed(v)
		if !reflect.DeepEqual(s, want) || !json.Same(shape.Tell(s), before) {
			t.Errorf("Read or Tell share memory with what was handed in, or another answer: %v", s)
		}
		for i := range s.Parts {
			for j := range s.Parts[i] {
				s.Parts[i][j] = at(99, 99)
			}
			s.Parts[i] = append(s.Parts[i], at(98, 98))
		}
		if !reflect.DeepEqual(other, want) {
			t.Errorf("two answers share memory: %v", other)
		}
	}
	v := shape.Tell(polygon(square(0, 9))).(json.Object)
	ring := v[1].Value.(json.List)[0].(json.List)
	ring[0].(json.List)[0] = "changed"
	if text, _ := json.Print(ring[len(ring)-1]); string(text) != "[0,0]" {
		t.Errorf("a ring's first and last place share memory: %s", text)
	}
	s, _ := shape.Read(rings(square(0, 9), square(0, 9)))
	s.Parts[0] = append(s.Parts[0], at(97, 97))
	s.Parts[0][0] = at(96, 96)
	if !reflect.DeepEqual(s.Parts[1], square(0, 9)) {
		t.Errorf("two rings share memory: %v", s)
	}
}
