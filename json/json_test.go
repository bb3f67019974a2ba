package json_test

import (
	"bytes"
	stdjson "encoding/json"
	"fmt"
	"math"
	"math/rand"
	"strings"
	"testing"

	"waywiser/api"
	"waywiser/json"
)

const most = 9_000_000_000_000_000_000

// nested is a value within so many lists and objects, by turns.
func nested(v any, n int) any {
	for i := range n {
		if i%2 == 0 {
			v = json.List{v}
		} else {
			v = json.Object{{"a", v}}
		}
	}
	return v
}

// values are such as may be, no two alike.
func values() []any {
	return []any{
		nil, false, true, json.Num(0), json.Num(1), json.Num(-1), json.Num(api.Scale), json.Num(most), json.Num(-most), "", "0", "1", "null", "a", "A", "a ", "é", "e\u0301", "\x00", "\"\\/\b\t\n\f\r\x1f\x7f\u2028\ufffd😀", strings.Repeat("x", 2*api.MaxText),
		json.List{}, json.List{nil}, json.List{false}, json.List{nil, nil}, json.List{json.List{}}, json.List{json.Object{}}, json.List{json.Num(1), json.Num(2)}, json.List{json.Num(2), json.Num(1)}, json.List{json.List{json.Num(1)}, json.Num(2)}, json.List{json.List{json.Num(1), json.Num(2)}}, json.List{"a", json.Num(1)},
		json.Object{}, json.Object{{"", nil}}, json.Object{{"a", nil}}, json.Object{{"a", false}}, json.Object{{"A", nil}}, json.Object{{"a", "a"}}, json.Object{{"a", json.Num(1)}, {"b", json.Num(2)}}, json.Object{{"b", json.Num(2)}, {"a", json.Num(1)}}, json.Object{{"a", json.Num(2)}, {"b", json.Num(1)}}, json.Object{{"a", json.Object{{"a", nil}}}}, json.Object{{"a", json.List{}}}, json.Object{{"a", json.Object{}}},
		nested(nil, 31), nested(nil, 32), nested(json.List{}, 31), nested(json.Object{}, 31), json.List{nested(nil, 31), nested(nil, 31)},
	}
}

// short is the begin of how Go tells a value.
func short(v any) string {
	s := fmt.Sprintf("%#v", v)
	return s[:min(len(s), 200)]
}

// fault is a value that may not be, and why.
type fault struct {
	v any
	e api.Errno
}

// faults are values that may not be, none of them within another one's depth.
func faults() []fault {
	type text string
	type other []any
	n := json.Num(1)
	l := []fault{
		{json.Num(most + 1), api.ErrRange}, {json.Num(-most - 1), api.ErrRange}, {json.Num(math.MaxInt64), api.ErrRange}, {json.Num(math.MinInt64), api.ErrRange},
		{"\xff", api.ErrText}, {"a\xc3", api.ErrText}, {"\xed\xa0\x80", api.ErrText}, {"\xc0\x80", api.ErrText}, {json.Object{{"\xff", nil}}, api.ErrText}, {json.Object{{"a", nil}, {"\xff", nil}}, api.ErrText},
		{json.Object{{"a", nil}, {"a", nil}}, api.ErrTwice}, {json.Object{{"", nil}, {"b", json.Num(1)}, {"", nil}}, api.ErrTwice}, {json.Object{{"b", nil}, {"a", json.Object{{"a", nil}}}, {"a", true}}, api.ErrTwice},
		{nested(nil, 33), api.ErrDeep}, {nested(json.List{}, 32), api.ErrDeep}, {nested(json.Object{}, 32), api.ErrDeep}, {nested(json.List(nil), 32), api.ErrDeep}, {nested(json.Object(nil), 32), api.ErrDeep}, {nested(1.5, 33), api.ErrDeep}, {nested(json.Object{{"\xff", nil}}, 32), api.ErrDeep},
	}
	for _, v := range []any{
		0, int64(1), uint8(1), float64(1.5), math.NaN(), 'x', complex(1, 2), uintptr(1), []any{}, []any{nil}, []byte("x"), []string{"x"}, map[string]any{}, [1]any{}, struct{}{}, json.Member{Name: "a"}, []json.Member{}, &n, (*json.Num)(nil), &json.List{}, (*json.Object)(nil), text("x"), other{}, api.OK, api.ErrArg, stdjson.Number("1"), fmt.Errorf("x"), func() {}, make(chan int), (func())(nil),
	} {
		l = append(l, fault{v, api.ErrType})
	}
	return l
}

// wantMay fails, if May or Print tell something else.
func wantMay(t *testing.T, v any, e api.Errno) {
	t.Helper()
	if got := json.May(v); got != e {
		t.Errorf("May(%s): %d, want %d", short(v), got, e)
	}
	if b, got := json.Print(v); got != e || e != api.OK && len(b) != 0 {
		t.Errorf("Print(%s): %.100q, %d; want %d", short(v), b, got, e)
	}
}

func TestMay(t *testing.T) { // P4.2
	for _, v := range values() {
		wantMay(t, v, api.OK)
	}
	wantMay(t, json.List(nil), api.OK)
	wantMay(t, json.Object(nil), api.OK)
	for _, f := range faults() {
		wantMay(t, f.v, f.e)
	}
}

func TestMayTellsTheFirstFault(t *testing.T) { // P4.2
	for _, a := range faults() {
		wantMay(t, json.List{a.v}, a.e)
		wantMay(t, json.List{nil, json.List{true, a.v}}, a.e)
		wantMay(t, json.Object{{"x", a.v}}, a.e)
		wantMay(t, json.Object{{"\xff", a.v}}, api.ErrText)
		wantMay(t, json.Object{{"x", nil}, {"x", a.v}}, api.ErrTwice)
		wantMay(t, json.Object{{"\xff", nil}, {"\xff", a.v}}, api.ErrText)
		wantMay(t, json.Object{{"x", a.v}, {"x", nil}}, a.e)
		wantMay(t, json.Object{{"x", a.v}, {"\xff", nil}}, a.e)
		for _, b := range faults() {
			wantMay(t, json.List{a.v, b.v}, a.e)
			wantMay(t, json.Object{{"x", json.List{nil, a.v}}, {"y", b.v}}, a.e)
		}
		wantMay(t, nested(json.List{a.v}, 32), api.ErrDeep)
		wantMay(t, nested(json.Object{{"x", nil}, {"x", a.v}}, 32), api.ErrDeep)
		if a.e != api.ErrDeep {
			wantMay(t, nested(a.v, 29), a.e)
		}
	}
	wantMay(t, nested("\xff", 32), api.ErrText)
	wantMay(t, nested(json.Num(math.MaxInt64), 32), api.ErrRange)
	wantMay(t, nested(1.5, 32), api.ErrType)
	wantMay(t, nested(json.Object{{"a", nil}, {"a", nil}}, 31), api.ErrTwice)
}

func TestValuesWithinThemselves(t *testing.T) { // P4.2, R1
	l := json.List{nil, nil, nil}
	l[0], l[1], l[2] = l, 1.5, l
	o := json.Object{{"a", nil}, {"b", nil}}
	o[0].Value, o[1].Value = o, o
	for _, v := range []any{l, o} {
		if b, e := json.Print(v); e != api.ErrDeep || len(b) != 0 || json.May(v) != api.ErrDeep {
			t.Errorf("May of a value within itself: %d, %d", json.May(v), e)
		}
		if json.Same(v, v) || json.Copy(v) != nil || json.Depth(v) != -1 {
			t.Error("a value within itself may be")
		}
		json.Field(v, "a")
		json.Field(v, "none")
	}
}

func TestPrint(t *testing.T) { // P4.2
	for _, c := range []struct {
		v    any
		want string
	}{
		{nil, "null"}, {true, "true"}, {false, "false"}, {json.Num(0), "0"}, {json.Num(-12500000), "-1.25"}, {json.Num(most), "900000000000"}, {json.Num(1), "0.0000001"}, {"", `""`}, {"é日😀", `"é日😀"`},
		{json.List{}, "[]"}, {json.List(nil), "[]"}, {json.Object{}, "{}"}, {json.Object(nil), "{}"}, {json.List{nil, json.Num(10000000), json.List{}, "a"}, `[null,1,[],"a"]`}, {json.Object{{"b", json.Object{}}, {"a\n", json.List{true}}, {"", false}}, `{"b":{},"a\n":[true],"":false}`},
		{"\"\\/\b\t\n\f\r", `"\"\\/\b\t\n\f\r"`}, {"\x00\x01\x07\x0b\x0e\x0f\x10\x1b\x1f", `"\u0000\u0001\u0007\u000b\u000e\u000f\u0010\u001b\u001f"`}, {"<&>'\x7f\u0080\u2028\u2029\ufeff\ufffd\U0010ffff", "\"<&>'\x7f\u0080\u2028\u2029\ufeff\ufffd\U0010ffff\""},
	} {
		if b, e := json.Print(c.v); e != api.OK || string(b) != c.want {
			t.Errorf("Print(%s): %q, %d; want %q", short(c.v), b, e, c.want)
		}
	}
	for c := rune(0); c < 0x300; c++ {
		want := string(c)
		switch {
		case c == '"' || c == '\\':
			want = `\` + string(c)
		case strings.ContainsRune("\b\t\n\f\r", c):
			want = fmt.Sprintf("%q", string(c))
			want = want[1 : len(want)-1]
		case c < 32:
			want = fmt.Sprintf(`\u%04x`, c)
		}
		if b, e := json.Print("a" + string(c) + "b"); e != api.OK || string(b) != `"a`+want+`b"` {
			t.Errorf("Print of the sign %x: %q, %d", c, b, e)
		}
		if b, e := json.Print(json.Object{{string(c), nil}}); e != api.OK || string(b) != `{"`+want+`":null}` {
			t.Errorf("Print of a name of the sign %x: %q, %d", c, b, e)
		}
	}
}

func TestPrintedIsNewMemory(t *testing.T) { // R4
	v := json.Object{{"a", json.List{"b", json.Num(1)}}}
	a, _ := json.Print(v)
	b, _ := json.Print(v)
	clear(a[:cap(a)])
	if c, _ := json.Print(v); !bytes.Equal(b, c) || string(c) != `{"a":["b",0.0000001]}` {
		t.Errorf("%q, %q", b, c)
	}
}

func TestSame(t *testing.T) { // P4.3
	a, b := values(), values()
	for i := range a {
		for j := range b {
			if json.Same(a[i], b[j]) != (i == j) {
				t.Errorf("Same(%s, %s): %t", short(a[i]), short(b[j]), i != j)
			}
		}
	}
	if !json.Same(json.List(nil), json.List{}) || !json.Same(json.Object{{"a", json.Object{}}}, json.Object{{"a", json.Object(nil)}}) || json.Same(json.List(nil), nil) || json.Same(json.Object(nil), json.List(nil)) {
		t.Error("empty lists and objects are alike, each with its own kind")
	}
	for _, f := range faults() {
		if json.Same(f.v, f.v) || json.Same(f.v, nil) || json.Same(nil, f.v) || json.Same(json.List{f.v}, json.List{f.v}) || json.Same(json.Object{{"a", f.v}}, json.Object{{"a", f.v}}) {
			t.Errorf("Same of %s, which may not be", short(f.v))
		}
	}
}

func TestCopy(t *testing.T) { // P4.3
	for _, v := range values() {
		if c := json.Copy(v); !json.Same(c, v) {
			t.Errorf("Copy(%s): %s", short(v), short(c))
		}
	}
	for _, f := range faults() {
		if c := json.Copy(f.v); c != nil {
			t.Errorf("Copy(%s): %s", short(f.v), short(c))
		}
		if c := json.Copy(json.List{nil, f.v}); c != nil {
			t.Errorf("Copy of a list with %s: %s", short(f.v), short(c))
		}
	}
}

// disturb changes all that a value holds, the spare room behind its lists' ends too.
func disturb(v any) {
	switch x := v.(type) {
	case json.List:
		for i := range x {
			disturb(x[i])
			x[i] = "disturbed"
		}
		_ = append(x, "more")
	case json.Object:
		for i := range x {
			disturb(x[i].Value)
			x[i] = json.Member{Name: "disturbed", Value: json.Num(i)}
		}
		_ = append(x, json.Member{Name: "more"})
	}
}

func TestCopyIsNewMemory(t *testing.T) { // P4.3, R4
	for i := range values() {
		v := values()[i]
		c := json.Copy(v)
		disturb(c)
		if !json.Same(v, values()[i]) {
			t.Errorf("a copy of %s shares its memory", short(values()[i]))
		}
		c = json.Copy(v)
		disturb(v)
		if !json.Same(c, values()[i]) {
			t.Errorf("%s shares the memory of its copy", short(values()[i]))
		}
	}
	c := json.Copy(json.List{json.List{nil}, json.List{nil}, json.Object{{"a", nil}}, json.Object{}}).(json.List)
	for i := range 2 {
		c[i] = append(c[i].(json.List), "more")
		c[i+2] = append(c[i+2].(json.Object), json.Member{Name: "more"})
	}
	want := json.List{json.List{nil, "more"}, json.List{nil, "more"}, json.Object{{"a", nil}, {"more", nil}}, json.Object{{"more", nil}}}
	if !json.Same(c, want) {
		t.Errorf("two lists of a copy share memory: %s", short(c))
	}
}

func TestDepth(t *testing.T) { // P4.3
	for _, v := range []any{nil, true, json.Num(5), "", "[[]]"} {
		if d := json.Depth(v); d != 0 {
			t.Errorf("Depth(%s): %d", short(v), d)
		}
		for n := range api.MaxDepth + 1 {
			if d := json.Depth(nested(v, n)); d != n {
				t.Errorf("Depth of %s within %d: %d", short(v), n, d)
			}
		}
		if d := json.Depth(nested(v, api.MaxDepth+1)); d != -1 {
			t.Errorf("Depth of what is too deep: %d", d)
		}
	}
	for _, c := range []struct {
		v    any
		want int
	}{
		{json.List{}, 1}, {json.Object{}, 1}, {json.List(nil), 1}, {json.List{nil, json.List{}, nil}, 2}, {json.List{nested(nil, 3), nested(nil, 5), nested(nil, 2)}, 6}, {json.Object{{"a", nil}, {"b", nested(nil, 4)}, {"c", json.List{}}}, 5}, {json.Object{{"a", nested(nil, 31)}, {"b", nil}}, 32}, {json.List{nested(json.List{}, 30), json.List{}}, 32},
	} {
		if d := json.Depth(c.v); d != c.want {
			t.Errorf("Depth(%s): %d, want %d", short(c.v), d, c.want)
		}
	}
	for _, f := range faults() {
		if d, e := json.Depth(f.v), json.Depth(json.List{nil, f.v}); d != -1 || e != -1 {
			t.Errorf("Depth of %s: %d, in a list %d", short(f.v), d, e)
		}
	}
}

func TestField(t *testing.T) { // P4.3
	o := json.Object{{"a", json.Num(1)}, {"", "empty"}, {"é", nil}, {"b", json.Object{{"c", json.List{true}}}}, {"false", false}}
	for _, m := range o {
		if v, ok := json.Field(o, m.Name); !ok || !json.Same(v, m.Value) {
			t.Errorf("Field(%q): %s, %t", m.Name, short(v), ok)
		}
	}
	for _, name := range []string{"c", "A", "a ", "b.c", "e\u0301", "\xff", "0", "null"} {
		if v, ok := json.Field(o, name); ok || v != nil {
			t.Errorf("Field(%q): %s, %t", name, short(v), ok)
		}
	}
	others := []any{json.List{"a", json.Object{{"a", nil}}}, 5, map[string]any{"a": nil, "": nil}, &o, json.Member{Name: "a"}, []json.Member{{Name: "a"}}, json.Object{}, json.Object(nil)}
	for _, v := range values() {
		if _, object := v.(json.Object); !object {
			others = append(others, v)
		}
	}
	for _, v := range others {
		for _, name := range []string{"a", "", "0"} {
			if x, ok := json.Field(v, name); ok || x != nil {
				t.Errorf("Field(%s, %q): %s, %t", short(v), name, short(x), ok)
			}
		}
	}
}

func TestFieldIsNewMemory(t *testing.T) { // P4.3, R4
	made := func() json.Object {
		return json.Object{{"a", json.List{json.List{nil}, json.Object{{"b", nil}}}}, {"c", json.Object{{"d", json.List{"e"}}}}}
	}
	o := made()
	for _, m := range made() {
		x, _ := json.Field(o, m.Name)
		disturb(x)
		if !json.Same(o, made()) {
			t.Fatalf("Field(%q) shares the object's memory", m.Name)
		}
		x, _ = json.Field(o, m.Name)
		disturb(o)
		if !json.Same(x, m.Value) {
			t.Errorf("the object shares the memory of Field(%q)", m.Name)
		}
		o = made()
	}
}

func TestNothingHandedInIsChanged(t *testing.T) { // R4
	for i := range values() {
		room := append(make(json.List, 0, 4), values()[i], "behind", "behind")
		members := append(make(json.Object, 0, 4), json.Member{Name: "a", Value: values()[i]}, json.Member{Name: "behind"})
		v := json.List{room[:1], members[:1]}
		json.May(v)
		json.Print(v)
		json.Same(v, v)
		json.Copy(v)
		json.Depth(v)
		json.Field(members[:1], "a")
		if len(v) != 2 || !json.Same(room, json.List{values()[i], "behind", "behind"}) && json.May(room) == api.OK || room[1] != "behind" || room[2] != "behind" || members[1].Name != "behind" || members[0].Name != "a" {
			t.Errorf("%s was changed", short(values()[i]))
		}
	}
}

// random is a value by chance, at most so deep.
func random(r *rand.Rand, deep int) any {
	kinds := 8
	if deep == 0 {
		kinds = 6
	}
	switch r.Intn(kinds) {
	case 0:
		return nil
	case 1:
		return r.Intn(2) == 0
	case 2:
		return json.Num(r.Int63n(most+1) >> r.Intn(63))
	case 3:
		return json.Num(-(r.Int63n(most+1) >> r.Intn(63)))
	case 4, 5:
		return randomText(r)
	case 6:
		l := json.List{}
		for range r.Intn(4) {
			l = append(l, random(r, deep-1))
		}
		return l
	}
	o := json.Object{}
	for i := range r.Intn(4) {
		o = append(o, json.Member{Name: fmt.Sprint(i) + randomText(r), Value: random(r, deep-1)})
	}
	return o
}

// randomText is a text by chance, of all kinds of signs.
func randomText(r *rand.Rand) string {
	var b strings.Builder
	for range r.Intn(6) {
		c := rune(r.Intn([]int{32, 128, 0x900, 0x10000, 0x110000}[r.Intn(5)]))
		if c >= 0xd800 && c < 0xe000 {
			c = '"'
		}
		b.WriteRune(c)
	}
	return b.String()
}

func TestThereAndBack(t *testing.T) { // P4.4
	r := rand.New(rand.NewSource(7))
	l := values()
	for range 30000 {
		l = append(l, random(r, r.Intn(6)))
	}
	for _, v := range l {
		b, e := json.Print(v)
		if e != api.OK {
			t.Fatalf("Print(%s): %d", short(v), e)
		}
		if len(b) > api.MaxText {
			continue
		}
		if !stdjson.Valid(b) {
			t.Fatalf("no JSON text: %q", b)
		}
		w, e := json.Parse(b)
		if e != api.OK || !json.Same(v, w) {
			t.Fatalf("Parse(%q): %s, %d", b, short(w), e)
		}
		if c, e := json.Print(w); e != api.OK || !bytes.Equal(b, c) {
			t.Fatalf("Print(%s): %q, %d; want %q", short(w), c, e, b)
		}
	}
}
