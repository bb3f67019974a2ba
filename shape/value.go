package shape

import (
	"slices"

	"waywiser/api"
	"waywiser/json"
)

// The names of the members of a shape's value.
const (
	kindName   = "type"
	placesName = "coordinates"
)

// fault is why a value is no shape's: the panic that ends its reading.
type fault struct{ why api.Errno }

// Read reads a shape's value.
func Read(v any) (Shape, api.Errno) { return read(v) }

// Tell tells it.
func Tell(s Shape) any {
	if !right(s) {
		return nil
	}
	return json.Object{{Name: kindName, Value: kinds()[s.Kind]}, {Name: placesName, Value: told(s)}}
}

// kinds are the texts that tell the kinds, in their order.
func kinds() []string { return []string{"Point", "LineString", "Polygon"} }

// read takes back the panic of a value that is none; another panic would be a fault of the program, and goes on.
func read(v any) (s Shape, e api.Errno) {
	defer func() {
		if p := recover(); p != nil {
			s, e = Shape{}, p.(fault).why
		}
	}()
	o := as[json.Object](v)
	need(len(o) == 2)
	s.Kind = kind(field(o, kindName))
	s.Parts = parts(s.Kind, field(o, placesName))
	need(right(s))
	return s, api.OK
}

// need ends the reading, if something that is needed is not so.
func need(so bool) {
	if !so {
		panic(fault{api.ErrGeo})
	}
}

// as is a value that must be of a kind.
func as[T any](v any) T {
	x, ok := v.(T)
	need(ok)
	return x
}

// field is the value of a member that must be there. It is not copied: what is no shape's value may be great.
func field(o json.Object, name string) any {
	at := slices.IndexFunc(o, func(m json.Member) bool { return m.Name == name })
	need(at >= 0)
	return o[at].Value
}

// kind is that which a value tells.
func kind(v any) Kind {
	at := slices.Index(kinds(), as[string](v))
	need(at >= 0)
	return Kind(at)
}

// parts are those of a shape of a kind.
func parts(k Kind, v any) [][]api.Point {
	switch k {
	case Spot:
		return [][]api.Point{{place(v)}}
	case Line:
		return [][]api.Point{places(v)}
	}
	var rings [][]api.Point
	for _, ring := range as[json.List](v) {
		rings = append(rings, opened(places(ring)))
	}
	return rings
}

// opened is a ring without its last place, which must be like its first one.
func opened(ring []api.Point) []api.Point {
	need(len(ring) > 0 && ring[0] == ring[len(ring)-1])
	return ring[:len(ring)-1]
}

// places are those of a list.
func places(v any) []api.Point {
	var out []api.Point
	for _, item := range as[json.List](v) {
		out = append(out, place(item))
	}
	return out
}

// place is one of two numbers. A number is held in the same parts of one as a point.
func place(v any) api.Point {
	l := as[json.List](v)
	need(len(l) == 2)
	return api.Point{X: int64(as[json.Num](l[0])), Y: int64(as[json.Num](l[1]))}
}

// told is where a shape is, as its value tells it.
func told(s Shape) json.List {
	switch s.Kind {
	case Spot:
		return toldPlace(s.Parts[0][0])
	case Line:
		return toldPlaces(s.Parts[0])
	}
	var rings json.List
	for _, ring := range s.Parts {
		rings = append(rings, append(toldPlaces(ring), toldPlace(ring[0])))
	}
	return rings
}

func toldPlaces(l []api.Point) json.List {
	var out json.List
	for _, p := range l {
		out = append(out, toldPlace(p))
	}
	return out
}

func toldPlace(p api.Point) json.List { return json.List{json.Num(p.X), json.Num(p.Y)} }
