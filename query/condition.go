package query

import (
	"slices"

	"waywiser/api"
	"waywiser/json"
	"waywiser/order"
	"waywiser/shape"
	"waywiser/stem"
	"waywiser/word"
)

// equal is the name of the condition that a value in the place of conditions is.
const equal = "$eq"

// The kinds of values.
const (
	nullKind   = "null"
	boolKind   = "bool"
	numberKind = "number"
	textKind   = "text"
	listKind   = "list"
	objectKind = "object"
)

// test: is a condition true of what a path leads to? If it leads nowhere, there is false.
type test func(x any, there bool) bool

// maker makes the test of a condition with a value; false, if it may not have that one.
type maker func(value any) (test, bool)

// makers are all conditions, by their names.
func makers() map[string]maker {
	return map[string]maker{
		equal:     is,
		"$ne":     turned(is),
		"$lt":     ordered(func(sign int) bool { return sign < 0 }),
		"$lte":    ordered(func(sign int) bool { return sign <= 0 }),
		"$gt":     ordered(func(sign int) bool { return sign > 0 }),
		"$gte":    ordered(func(sign int) bool { return sign >= 0 }),
		"$in":     among,
		"$nin":    turned(among),
		"$exists": exists,
		"$kind":   ofKind,
		"$within": shaped(within),
		"$meets":  shaped(meeting),
		"$box":    boxed(func(shape.Shape) bool { return true }),
		"$point":  boxed(func(s shape.Shape) bool { return s.Kind == shape.Spot }),
		"$words":  worded,
	}
}

// somewhere is a test of what is there; it is false of nothing.
func somewhere(of func(x any) bool) test {
	return func(x any, there bool) bool { return there && of(x) }
}

// turned makes the tests that are true where another maker's are not, also of nothing.
func turned(m maker) maker {
	return func(value any) (test, bool) {
		t, ok := m(value)
		return func(x any, there bool) bool { return !t(x, there) }, ok
	}
}

func is(value any) (test, bool) {
	return somewhere(func(x any) bool { return json.Same(x, value) }), true
}

// ordered makes the tests that ask on which side of a value one of its kind is: by the sign of the order.
func ordered(right func(sign int) bool) maker {
	return func(value any) (test, bool) {
		return somewhere(func(x any) bool {
			sign, e := order.Compare(x, value)
			return e == api.OK && kind(x) == kind(value) && right(sign)
		}), true
	}
}

func among(value any) (test, bool) {
	l, ok := value.(json.List)
	return somewhere(func(x any) bool {
		return slices.ContainsFunc(l, func(y any) bool { return json.Same(x, y) })
	}), ok
}

func exists(value any) (test, bool) {
	want, ok := value.(bool)
	return func(_ any, there bool) bool { return there == want }, ok
}

func ofKind(value any) (test, bool) {
	name, _ := value.(string)
	ok := slices.Contains([]string{nullKind, boolKind, numberKind, textKind, listKind, objectKind}, name)
	return somewhere(func(x any) bool { return kind(x) == name }), ok
}

// shaped makes the tests that ask something of two shapes, of which the condition tells the second one.
func shaped(ask func(t shape.Shape) (func(s shape.Shape) bool, bool)) maker {
	return func(value any) (test, bool) {
		t, e := shape.Read(value)
		if e != api.OK {
			return nil, false
		}
		of, ok := ask(t)
		return ofShape(of), ok
	}
}

// ofShape is a test of a shape; it is false of what is none.
func ofShape(of func(s shape.Shape) bool) test {
	return somewhere(func(x any) bool {
		s, e := shape.Read(x)
		return e == api.OK && of(s)
	})
}

func within(t shape.Shape) (func(s shape.Shape) bool, bool) {
	return func(s shape.Shape) bool { return shape.Within(s, t) }, t.Kind == shape.Polygon
}

func meeting(t shape.Shape) (func(s shape.Shape) bool, bool) {
	return func(s shape.Shape) bool { return shape.Meet(s, t) }, true
}

// boxed makes the tests that ask whether a shape's box overlaps a rect, if the shape is a right one.
func boxed(right func(s shape.Shape) bool) maker {
	return func(value any) (test, bool) {
		r, ok := rect(value)
		return ofShape(func(s shape.Shape) bool { return right(s) && overlap(shape.Box(s), r) }), ok
	}
}

// rect is that from the first two numbers of a list to the last two; false, if it may not be.
func rect(v any) (api.Rect, bool) {
	l, _ := v.(json.List)
	if len(l) != 4 {
		return api.Rect{}, false
	}
	least, ok := corner(l[:2])
	greatest, okay := corner(l[2:])
	r := api.Rect{MinX: least.X, MinY: least.Y, MaxX: greatest.X, MaxY: greatest.Y}
	return r, ok && okay && r.MinX <= r.MaxX && r.MinY <= r.MaxY
}

// corner is the place that two values tell; which ones do, layer 9 knows.
func corner(l json.List) (api.Point, bool) {
	s, e := shape.Read(json.Object{{Name: "type", Value: "Point"}, {Name: "coordinates", Value: l}})
	if e != api.OK {
		return api.Point{}, false
	}
	return s.Parts[0][0], true
}

// overlap: have two rects a place in common?
func overlap(r, s api.Rect) bool {
	return r.MinX <= s.MaxX && s.MinX <= r.MaxX && r.MinY <= s.MaxY && s.MinY <= r.MaxY
}

func worded(value any) (test, bool) {
	text, _ := value.(string)
	want := stems(text)
	return somewhere(func(x any) bool {
		text, ok := x.(string)
		return ok && has(stems(text), want)
	}), len(want) > 0
}

// stems are those of a text's words that are no stop words.
func stems(text string) map[string]struct{} {
	out := map[string]struct{}{}
	for _, w := range word.Words(text) {
		if !word.Stop(w.Text) {
			out[stem.Stem(w.Text)] = struct{}{}
		}
	}
	return out
}

// has: are all stems that are wanted among others?
func has(others, want map[string]struct{}) bool {
	for s := range want {
		if _, ok := others[s]; !ok {
			return false
		}
	}
	return true
}

// kind is that of a value that may be.
func kind(v any) string {
	switch v.(type) {
	case nil:
		return nullKind
	case bool:
		return boolKind
	case json.Num:
		return numberKind
	case string:
		return textKind
	case json.List:
		return listKind
	}
	return objectKind
}
