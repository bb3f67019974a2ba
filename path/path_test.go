package path_test

import (
	"fmt"
	"math"
	"math/rand"
	"regexp"
	"slices"
	"strings"
	"testing"
	"unicode/utf8"

	"waywiser/api"
	"waywiser/json"
	"waywiser/path"
)

const most = 9_000_000_000_000_000_000

// read is the value of a JSON text that is one.
func read(s string) any {
	v, e := json.Parse([]byte(s))
	if e != api.OK {
		panic(s)
	}
	return v
}

// object is one of names and values by turns.
func object(parts ...any) json.Object {
	o := json.Object{}
	for i := 0; i < len(parts); i += 2 {
		o = append(o, json.Member{Name: parts[i].(string), Value: parts[i+1]})
	}
	return o
}

// nested is a value within so many objects, each of one member a.
func nested(v any, n int) any {
	for range n {
		v = object("a", v)
	}
	return v
}

// steps are so many steps a, as a path.
func steps(n int) string { return strings.TrimSuffix(strings.Repeat("a.", n), ".") }

// short is the begin of how Go tells a value.
func short(v any) string {
	s := fmt.Sprintf("%#v", v)
	return s[:min(len(s), 200)]
}

// fault is a value that may not be, and why.
type fault struct {
	v any
	e api.Errno
}

// faults are values that may not be.
func faults() []fault {
	within := json.List{nil}
	within[0] = within
	return []fault{
		{5, api.ErrType}, {1.5, api.ErrType}, {[]any{nil}, api.ErrType}, {map[string]any{"a": nil}, api.ErrType}, {func() {}, api.ErrType}, {&within, api.ErrType}, {json.List{nil, int64(1)}, api.ErrType}, {object("a", struct{}{}), api.ErrType}, {object("a", nil, "b", 5), api.ErrType},
		{json.Num(most + 1), api.ErrRange}, {object("a", json.Num(math.MinInt64)), api.ErrRange},
		{"\xff", api.ErrText}, {object("a", nil, "\xff", nil), api.ErrText},
		{nested(nil, 33), api.ErrDeep}, {nested(json.List{}, 32), api.ErrDeep}, {within, api.ErrDeep},
		{object("a", nil, "a", nil), api.ErrTwice},
	}
}

// noPaths are texts that are none.
func noPaths() []string {
	return []string{"", ".", "..", ".a", "a.", "a..b", "a.b.", ".a.b", "a...b", "\xff", "a.\xff", "a\xc3", "\xc3.\xa9", "\xed\xa0\x80", "a.\x80.b", "\xc0\xae", strings.Repeat("a", 129), strings.Repeat("a", 1<<17), steps(65), strings.Repeat("é", 65), steps(64) + "aa", strings.Repeat(".", 128), strings.Repeat("a", 127) + ".", "." + strings.Repeat("a", 127)}
}

func TestSteps(t *testing.T) { // P6.1
	for s, want := range map[string][]string{
		"a": {"a"}, "a.b": {"a", "b"}, "a.0.b": {"a", "0", "b"}, "abc.de.f": {"abc", "de", "f"}, " ": {" "}, "a . b": {"a ", " b"}, "é.日.😀": {"é", "日", "😀"}, "\x00.\x01": {"\x00", "\x01"}, "00.-1.+1": {"00", "-1", "+1"}, "$a.[0]": {"$a", "[0]"}, "a/b\\c.\"": {"a/b\\c", "\""}, "\ufffd.a": {"\ufffd", "a"}, "\uff0e.\u2024": {"\uff0e", "\u2024"},
		strings.Repeat("a", 128): {strings.Repeat("a", 128)}, strings.Repeat("é", 64): {strings.Repeat("é", 64)}, steps(64): strings.Split(steps(64), "."), steps(63) + ".aa": append(strings.Split(steps(63), "."), "aa"),
	} {
		if got, e := path.Steps(s); e != api.OK || !slices.Equal(got, want) {
			t.Errorf("Steps(%q): %q, %d; want %q", s, got, e, want)
		}
	}
	for _, s := range noPaths() {
		if got, e := path.Steps(s); e != api.ErrPath || len(got) > 0 {
			t.Errorf("Steps(%.130q): %q, %d", s, got, e)
		}
	}
}

func TestStepsByChance(t *testing.T) { // P6.1
	r := rand.New(rand.NewSource(1))
	pieces := []string{".", ".", "a", "bc", "0", "é", "日", "\xff", "\xa9", "\xc3", "\x00", "😀"}
	for range 100000 {
		var b strings.Builder
		for range r.Intn(12) {
			b.WriteString(pieces[r.Intn(len(pieces)-4*r.Intn(2))])
		}
		s := strings.Repeat(b.String(), 1+r.Intn(2)*r.Intn(12))
		want, e := strings.Split(s, "."), api.OK
		if slices.Contains(want, "") || len(s) > api.MaxPath || !utf8.ValidString(s) {
			want, e = nil, api.ErrPath
		}
		if got, f := path.Steps(s); f != e || !slices.Equal(got, want) {
			t.Fatalf("Steps(%q): %q, %d; want %q, %d", s, got, f, want, e)
		}
	}
}

// wantGet fails, if a path does not lead to the value that a JSON text tells; to nothing, if that is empty.
func wantGet(t *testing.T, v any, p, want string) {
	t.Helper()
	x, ok := path.Get(v, p)
	if want == "" {
		if ok || x != nil {
			t.Errorf("Get(%s, %.130q): %s, %t", short(v), p, short(x), ok)
		}
		return
	}
	if !ok || !json.Same(x, read(want)) {
		t.Errorf("Get(%s, %q): %s, %t; want %s", short(v), p, short(x), ok, want)
	}
}

func TestGet(t *testing.T) { // P6.1
	wantGet(t, read(`{"a":[5,{"b":6}]}`), "a.1.b", "6")
	v := read(`{"a":[5,{"b":6},[7,[8]]],"n":null,"":{"":1},"c.d":1,"c":{"e":2},"0":"zero","00":{"0":false,"-0":true},"é":["x"],"A":1,"s":"text"," ":3,"$x":{"\u0000":4}}`)
	for p, want := range map[string]string{
		"a": `[5,{"b":6},[7,[8]]]`, "a.0": "5", "a.1": `{"b":6}`, "a.1.b": "6", "a.2": "[7,[8]]", "a.2.0": "7", "a.2.1": "[8]", "a.2.1.0": "8", "n": "null", "c.e": "2", "c": `{"e":2}`, "0": `"zero"`, "00": `{"0":false,"-0":true}`, "00.0": "false", "00.-0": "true", "é": `["x"]`, "é.0": `"x"`, "A": "1", "s": `"text"`, " ": "3", "$x.\x00": "4",
		"a.3": "", "a.00": "", "a.01": "", "a.+1": "", "a.-0": "", "a.-1": "", "a. 1": "", "a.1 ": "", "a.0x1": "", "a.1e0": "", "a.0_1": "", "a.b": "", "a.١": "", "a.１": "", "a.length": "", "a.99999999999999999999": "", "a.4294967296": "", "a.4294967297": "", "a.9223372036854775807": "", "a.9223372036854775808": "", "a.18446744073709551616": "", "a.18446744073709551617": "", "a." + strings.Repeat("1", 126): "", "a.0.0": "", "a.1.b.c": "", "a.2.1.0.0": "",
		"b": "", "n.a": "", "n.0": "", "c.d": "", "c.d.e": "", "s.0": "", "s.t": "", "e\u0301": "", "aa": "", "0.0": "", "00.00": "", "null": "", "1": "",
	} {
		wantGet(t, v, p, want)
	}
	for _, p := range noPaths() {
		wantGet(t, v, p, "")
		wantGet(t, object(p, object("", nil, "a", nil)), p, "")
	}
	for _, s := range []string{"null", "true", "1", `"a"`, "[]", "{}", `{"b":1}`} {
		wantGet(t, read(s), "a", "")
		wantGet(t, read(s), "0", "")
	}
	for _, f := range faults() {
		for _, v := range []any{f.v, object("a", nil, "x", f.v), object("x", f.v, "a", nil), json.List{nil, f.v}, object("a", f.v)} {
			wantGet(t, v, "a", "")
			wantGet(t, v, "0", "")
			wantGet(t, v, "a.a", "")
		}
	}
	wantGet(t, nested(read("1"), 32), steps(32), "1")
	wantGet(t, nested(read("1"), 32), steps(33), "")
}

func TestItemsByTheirNumbers(t *testing.T) { // P6.1
	l := json.List{}
	for i := range 130 {
		l = append(l, json.Num(i*api.Scale))
	}
	for i := range 150 {
		want := fmt.Sprint(i)
		if i >= len(l) {
			want = ""
		}
		wantGet(t, l, fmt.Sprint(i), want)
		wantGet(t, object("a", l), fmt.Sprintf("a.%d", i), want)
		wantGet(t, l, fmt.Sprintf("0%d", i), "")
		wantGet(t, l, fmt.Sprintf("-%d", i), "")
		wantGet(t, l, fmt.Sprintf("+%d", i), "")
	}
}

// wantValue fails, if an answer is not the value that a JSON text tells, or, of an empty one, not the error alone.
func wantValue(t *testing.T, call string, v any, e api.Errno, want string, why api.Errno) {
	t.Helper()
	if want == "" {
		if e != why || v != nil {
			t.Errorf("%s: %s, %d; want %d", call, short(v), e, why)
		}
		return
	}
	if e != api.OK || !json.Same(v, read(want)) {
		t.Errorf("%s: %s, %d; want %s", call, short(v), e, want)
	}
}

func TestPut(t *testing.T) { // P6.2
	for _, c := range []struct {
		v, path, x, want string
		e                api.Errno
	}{
		{`{}`, "a.b", `1`, `{"a":{"b":1}}`, 0}, {`[]`, "0", `1`, `[1]`, 0}, {`[]`, "1", `1`, ``, api.ErrType},
		{`{}`, "a", `null`, `{"a":null}`, 0}, {`{"a":1}`, "a", `2`, `{"a":2}`, 0}, {`{"a":1,"b":2,"c":3}`, "b", `[4]`, `{"a":1,"b":[4],"c":3}`, 0}, {`{"a":1}`, "b", `{"c":[]}`, `{"a":1,"b":{"c":[]}}`, 0}, {`{"b":1}`, "a", `2`, `{"b":1,"a":2}`, 0},
		{`{}`, "a.0", `1`, `{"a":{"0":1}}`, 0}, {`{}`, "0.0.0", `1`, `{"0":{"0":{"0":1}}}`, 0}, {`{"a":{}}`, "a.b.c.d", `"x"`, `{"a":{"b":{"c":{"d":"x"}}}}`, 0}, {`{"a":{"b":{"c":1},"d":2}}`, "a.b.c", `{}`, `{"a":{"b":{"c":{}},"d":2}}`, 0}, {`{"a":{"b":1}}`, "a", `5`, `{"a":5}`, 0}, {`{"a":{"b":1},"c":2}`, "a.d", `3`, `{"a":{"b":1,"d":3},"c":2}`, 0},
		{`[1,2,3]`, "0", `9`, `[9,2,3]`, 0}, {`[1,2,3]`, "2", `9`, `[1,2,9]`, 0}, {`[1,2,3]`, "3", `9`, `[1,2,3,9]`, 0}, {`[1,2,3]`, "4", `9`, ``, api.ErrType}, {`[]`, "0.a", `1`, `[{"a":1}]`, 0}, {`[]`, "0.0", `1`, `[{"0":1}]`, 0}, {`[[]]`, "0.0.0", `1`, `[[{"0":1}]]`, 0}, {`[[1],[2]]`, "1.1.a.b", `3`, `[[1],[2,{"a":{"b":3}}]]`, 0}, {`{"a":[{"b":[]}]}`, "a.0.b.0", `7`, `{"a":[{"b":[7]}]}`, 0}, {`[0,1,2,3,4,5,6,7,8,9]`, "10", `10`, `[0,1,2,3,4,5,6,7,8,9,10]`, 0},
		{`[]`, "00", `1`, ``, api.ErrType}, {`[1]`, "00", `1`, ``, api.ErrType}, {`[1]`, "01", `1`, ``, api.ErrType}, {`[1]`, "-1", `1`, ``, api.ErrType}, {`[1]`, "+1", `1`, ``, api.ErrType}, {`[1]`, "-0", `1`, ``, api.ErrType}, {`[1]`, "a", `1`, ``, api.ErrType}, {`[1]`, " 1", `1`, ``, api.ErrType}, {`[1]`, "18446744073709551617", `1`, ``, api.ErrType}, {`[1]`, "９", `1`, ``, api.ErrType}, {`[1]`, "1.1.1", `1`, `[1,{"1":{"1":1}}]`, 0}, {`[1]`, "2.a", `1`, ``, api.ErrType},
		{`null`, "a", `1`, ``, api.ErrType}, {`true`, "a", `1`, ``, api.ErrType}, {`5`, "0", `1`, ``, api.ErrType}, {`"text"`, "0", `1`, ``, api.ErrType}, {`{"a":null}`, "a.b", `1`, ``, api.ErrType}, {`{"a":false}`, "a.b.c", `1`, ``, api.ErrType}, {`{"a":"b"}`, "a.b", `1`, ``, api.ErrType}, {`{"a":[5]}`, "a.0.0", `1`, ``, api.ErrType}, {`{"a":[5]}`, "a.b", `1`, ``, api.ErrType},
		{`{"":1}`, "a", `2`, `{"":1,"a":2}`, 0}, {`{"a.b":1}`, "a.b", `2`, `{"a.b":1,"a":{"b":2}}`, 0}, {`{"é":1}`, "e\u0301", `2`, `{"é":1,"e\u0301":2}`, 0}, {`{"a":1}`, "A", `2`, `{"a":1,"A":2}`, 0}, {`{}`, " .é.\x00", `1`, `{" ":{"é":{"\u0000":1}}}`, 0},
	} {
		v, e := path.Put(read(c.v), c.path, read(c.x))
		wantValue(t, fmt.Sprintf("Put(%s, %q, %s)", c.v, c.path, c.x), v, e, c.want, c.e)
	}
	for _, v := range []any{json.List(nil), json.Object(nil)} {
		if w, e := path.Put(v, "0", nil); e != api.OK || json.Depth(w) != 1 {
			t.Errorf("Put into an empty value that is nil: %s, %d", short(w), e)
		}
	}
}

func TestFirstFaultOfPutAndDrop(t *testing.T) { // P6.2
	put := func(v any, p string, x any, want api.Errno) {
		t.Helper()
		w, e := path.Put(v, p, x)
		wantValue(t, fmt.Sprintf("Put(%T, %.130q, %T)", v, p, x), w, e, "", want)
	}
	drop := func(v any, p string, want api.Errno) {
		t.Helper()
		w, e := path.Drop(v, p)
		wantValue(t, fmt.Sprintf("Drop(%T, %.130q)", v, p), w, e, "", want)
	}
	for _, p := range noPaths() {
		put(object(), p, nil, api.ErrPath)
		put(nil, p, nil, api.ErrPath)
		drop(object(p, nil), p, api.ErrPath)
		drop(nil, p, api.ErrPath)
		for _, f := range faults() {
			put(f.v, p, f.v, api.ErrPath)
			drop(f.v, p, api.ErrPath)
		}
	}
	for _, f := range faults() {
		for _, p := range []string{"a", "0", "b.c", steps(64)} {
			put(f.v, p, nil, f.e)
			put(object(), p, f.v, f.e)
			put(nil, p, f.v, f.e) // ahead of ErrType
			put(nested(object(), 31), p, f.v, f.e)
			drop(f.v, p, f.e)
			for _, g := range faults() {
				put(f.v, p, g.v, f.e)
			}
		}
		put(object("a", nil, "b", f.v), "b", nil, f.e)
	}
}

func TestPutTooDeep(t *testing.T) { // P6.2
	for _, c := range []struct {
		v    any
		path string
		x    any
		e    api.Errno
	}{
		{object(), steps(32), nil, api.OK}, {object(), steps(32), json.List{}, api.ErrDeep}, {object(), steps(31), json.List{}, api.OK}, {object(), steps(33), nil, api.ErrDeep}, {object(), steps(64), nil, api.ErrDeep}, {json.List{}, "0." + steps(31), nil, api.OK}, {json.List{}, "0." + steps(32), nil, api.ErrDeep},
		{object(), "a", nested(nil, 31), api.OK}, {object(), "a", nested(nil, 32), api.ErrDeep}, {object(), "a.b", nested(nil, 31), api.ErrDeep}, {json.List{}, "0", nested(nil, 32), api.ErrDeep},
		{nested(nil, 32), "a", nil, api.OK}, {nested(nil, 32), steps(32), nil, api.OK}, {nested(nil, 32), steps(32), object(), api.ErrDeep}, {nested(object(), 31), steps(32), nil, api.OK}, {nested(object(), 31), steps(33), nil, api.ErrDeep}, {nested(nil, 32), "b", nested(nil, 31), api.OK},
		{nested(nil, 32), steps(33), nil, api.ErrType}, {nested(nil, 32), steps(64), nested(nil, 32), api.ErrType}, {nil, steps(64), nested(nil, 32), api.ErrType}, {json.List{}, "1." + steps(40), nil, api.ErrType},
	} {
		w, e := path.Put(c.v, c.path, c.x)
		if e != c.e || e != api.OK && w != nil {
			t.Errorf("Put(%s, %q, %s): %s, %d; want %d", short(c.v), c.path, short(c.x), short(w), e, c.e)
		}
		if x, ok := path.Get(w, c.path); e == api.OK && (!ok || !json.Same(x, c.x)) {
			t.Errorf("Get(%q) behind Put: %s, %t", c.path, short(x), ok)
		}
	}
}

func TestDrop(t *testing.T) { // P6.2
	for _, c := range []struct {
		v, path, want string
		e             api.Errno
	}{
		{`[1,2,3]`, "1", `[1,3]`, 0}, {`[1,2,3]`, "0", `[2,3]`, 0}, {`[1,2,3]`, "2", `[1,2]`, 0}, {`[1]`, "0", `[]`, 0}, {`{"a":1}`, "a", `{}`, 0}, {`{"a":1,"b":2,"c":3}`, "b", `{"a":1,"c":3}`, 0}, {`{"a":{"b":[1,{"c":2,"d":3}]},"e":4}`, "a.b.1.c", `{"a":{"b":[1,{"d":3}]},"e":4}`, 0}, {`{"a":{"b":[1,{"c":2,"d":3}]},"e":4}`, "a.b.0", `{"a":{"b":[{"c":2,"d":3}]},"e":4}`, 0}, {`{"a":{"b":[1]},"e":4}`, "a", `{"e":4}`, 0}, {`[[1],[[2],3]]`, "1.0", `[[1],[3]]`, 0}, {`[[1],[[2],3]]`, "1.0.0", `[[1],[[],3]]`, 0}, {`{"a":null}`, "a", `{}`, 0}, {`{"a.b":1,"a":{"b":2}}`, "a.b", `{"a.b":1,"a":{}}`, 0}, {`{"0":1,"00":2}`, "00", `{"0":1}`, 0}, {`[0,1,2,3,4,5,6,7,8,9,10,11]`, "10", `[0,1,2,3,4,5,6,7,8,9,11]`, 0},
		{`[1,2,3]`, "3", ``, api.ErrNone}, {`[1,2,3]`, "01", ``, api.ErrNone}, {`[1,2,3]`, "-1", ``, api.ErrNone}, {`[1,2,3]`, "+1", ``, api.ErrNone}, {`[1,2,3]`, "a", ``, api.ErrNone}, {`[1,2,3]`, "18446744073709551616", ``, api.ErrNone}, {`[]`, "0", ``, api.ErrNone}, {`{}`, "a", ``, api.ErrNone}, {`{"a":1}`, "b", ``, api.ErrNone}, {`{"a":1}`, "a.b", ``, api.ErrNone}, {`{"a":1}`, "b.a", ``, api.ErrNone}, {`{"a":[1]}`, "a.1", ``, api.ErrNone}, {`{"a.b":1}`, "a.b", ``, api.ErrNone}, {`{"a":null}`, "a.b", ``, api.ErrNone}, {`null`, "a", ``, api.ErrNone}, {`true`, "a", ``, api.ErrNone}, {`1`, "0", ``, api.ErrNone}, {`"abc"`, "0", ``, api.ErrNone},
	} {
		v, e := path.Drop(read(c.v), c.path)
		wantValue(t, fmt.Sprintf("Drop(%s, %q)", c.v, c.path), v, e, c.want, c.e)
	}
}

func TestAll(t *testing.T) { // P6.3
	long := strings.Repeat("x", 126)
	for _, c := range []struct {
		v    any
		want []string
	}{
		{read(`{"a":[5,{"b":6}],"c":{"d":null},"e":[]}`), []string{"a", "a.0", "a.1", "a.1.b", "c", "c.d", "e"}}, {read(`[[1,[2]],{"x":{}}]`), []string{"0", "0.0", "0.1", "0.1.0", "1", "1.x"}}, {read(`{"b":{"z":1,"y":2},"a":3}`), []string{"b", "b.z", "b.y", "a"}},
		{nil, nil}, {true, nil}, {read("5"), nil}, {"text", nil}, {json.List{}, nil}, {object(), nil}, {json.List(nil), nil}, {json.Object(nil), nil}, {read(`{"a":{}}`), []string{"a"}},
		{read(`{"":{"a":1},"a.b":{"c":2},".":3,"..":4,"a.":5,".a":6,"a":{"":7,"x.y":8,"z":9}}`), []string{"a", "a.z"}}, {read(`[{"":[1]},{".":[1]}]`), []string{"0", "1"}}, {read(`{" ":1,"é":{"\u0000":2},"00":{"-1":[3]},"０":4}`), []string{" ", "é", "é.\x00", "00", "00.-1", "00.-1.0", "０"}},
		{object(long, object("a", object("b", nil), "bc", nil), "c", nil), []string{long, long + ".a", "c"}}, {object(long, json.List{read("[1]"), nil}), []string{long, long + ".0", long + ".1"}}, {object(long+"aa", object("b", nil), "c", nil), []string{long + "aa", "c"}}, {object(long+"aaa", object("b", nil), "c", nil), []string{"c"}}, {object("a", object(long, nil, long+"x", nil)), []string{"a", "a." + long}}, {object(strings.Repeat("é", 64), nil, strings.Repeat("é", 64)+"a", nil), []string{strings.Repeat("é", 64)}},
	} {
		if got := path.All(c.v); !slices.Equal(got, c.want) {
			t.Errorf("All(%s): %q, want %q", short(c.v), got, c.want)
		}
	}
	for n := range 33 {
		if got := path.All(nested(nil, n)); len(got) != n || n > 0 && got[n-1] != steps(n) {
			t.Errorf("All of what is %d deep: %q", n, got)
		}
	}
	for _, f := range faults() {
		for _, v := range []any{f.v, object("a", nil, "x", f.v), json.List{nil, f.v}} {
			if got := path.All(v); len(got) > 0 {
				t.Errorf("All(%T): %q", v, got)
			}
		}
	}
}

// spot is something in a value, and the names and numbers that lead there.
type spot struct {
	steps []string
	v     any
}

// spots are all that is in a value, in order.
func spots(v any, ahead ...string) (out []spot) {
	add := func(step string, x any) {
		to := append(slices.Clone(ahead), step)
		out = append(out, spot{to, x})
		out = append(out, spots(x, to...)...)
	}
	switch x := v.(type) {
	case json.List:
		for i := range x {
			add(fmt.Sprint(i), x[i])
		}
	case json.Object:
		for _, m := range x {
			add(m.Name, m.Value)
		}
	}
	return out
}

// path is the path that leads there; empty, if none does.
func (s spot) path() string {
	for _, step := range s.steps {
		if step == "" || strings.Contains(step, ".") {
			return ""
		}
	}
	p := strings.Join(s.steps, ".")
	if len(p) > api.MaxPath {
		return ""
	}
	return p
}

// random is a value by chance, at most so deep.
func random(r *rand.Rand, deep int) any {
	switch k := r.Intn(10); {
	case deep == 0 || k < 2:
		return []any{nil, true, json.Num(api.Scale), "a", json.List{}, object()}[r.Intn(6)]
	case k < 5:
		l := json.List{}
		for range r.Intn(4) {
			l = append(l, random(r, deep-1))
		}
		return l
	}
	o := object()
	for _, i := range r.Perm(9)[:r.Intn(5)] {
		name := []string{"a", "b", "0", "1", "é", "", ".", "a.b", strings.Repeat("x", 60)}[i]
		o = append(o, json.Member{Name: name, Value: random(r, deep-1)})
	}
	return o
}

// randomPath is one by chance, near to what is in a value.
func randomPath(r *rand.Rand, v any) string {
	steps := []string{}
	if l := path.All(v); len(l) > 0 && r.Intn(4) > 0 {
		steps = strings.Split(l[r.Intn(len(l))], ".")
	}
	for range r.Intn(3) {
		steps = append(steps, []string{"a", "b", "c", "0", "1", "2", "01", "é"}[r.Intn(8)])
	}
	if len(steps) == 0 {
		return "a"
	}
	return strings.Join(steps, ".")
}

func TestAllAndGetByChance(t *testing.T) { // P6.1, P6.3
	r := rand.New(rand.NewSource(2))
	for range 5000 {
		v := random(r, 5)
		var want []string
		for _, s := range spots(v) {
			p := s.path()
			if p == "" {
				continue
			}
			want = append(want, p)
			if x, ok := path.Get(v, p); !ok || !json.Same(x, s.v) {
				t.Fatalf("Get(%s, %q): %s, %t", short(v), p, short(x), ok)
			}
		}
		if got := path.All(v); !slices.Equal(got, want) {
			t.Fatalf("All(%s): %q, want %q", short(v), got, want)
		}
		p := randomPath(r, v)
		if x, ok := path.Get(v, p); ok != slices.Contains(want, p) && len(p) <= api.MaxPath {
			t.Fatalf("Get(%s, %q): %s, %t", short(v), p, short(x), ok)
		}
	}
}

var number = regexp.MustCompile(`^(0|[1-9][0-9]*)$`)

// putModel is what Put asks for, but for how deep it is: a value that is made anew from its leaves on; false for ErrType.
func putModel(v any, steps []string, x any) (any, bool) {
	if len(steps) == 0 {
		return x, true
	}
	switch y := v.(type) {
	case json.Object:
		out, is := object(), false
		for _, m := range y {
			if m.Name == steps[0] {
				w, ok := putModel(m.Value, steps[1:], x)
				if !ok {
					return nil, false
				}
				m.Value, is = w, true
			}
			out = append(out, m)
		}
		if !is {
			w, ok := putModel(object(), steps[1:], x)
			if !ok {
				return nil, false
			}
			out = append(out, json.Member{Name: steps[0], Value: w})
		}
		return out, true
	case json.List:
		if !number.MatchString(steps[0]) {
			return nil, false
		}
		for i, item := range append(slices.Clone(y), object()) {
			if fmt.Sprint(i) == steps[0] {
				w, ok := putModel(item, steps[1:], x)
				return slices.Concat(y[:i], json.List{w}, y[min(i+1, len(y)):]), ok
			}
		}
	}
	return nil, false
}

// apart: does neither path lead on from the other one?
func apart(p, q string) bool {
	return !strings.HasPrefix(p+".", q+".") && !strings.HasPrefix(q+".", p+".")
}

func TestPutByChance(t *testing.T) { // P6.2, P6.4
	r := rand.New(rand.NewSource(3))
	done := 0
	for range 20000 {
		v, x := random(r, 5), random(r, 2)
		p := randomPath(r, v)
		if len(p) > api.MaxPath {
			continue
		}
		want, ok := putModel(v, strings.Split(p, "."), x)
		w, e := path.Put(v, p, x)
		if !ok {
			if e != api.ErrType || w != nil {
				t.Fatalf("Put(%s, %q, %s): %s, %d", short(v), p, short(x), short(w), e)
			}
			continue
		}
		if e != api.OK || !json.Same(w, want) {
			t.Fatalf("Put(%s, %q, %s): %s, %d; want %s", short(v), p, short(x), short(w), e, short(want))
		}
		if y, ok := path.Get(w, p); !ok || !json.Same(y, x) {
			t.Fatalf("Get(%q) behind Put(%s, %s): %s, %t", p, short(v), short(x), short(y), ok)
		}
		for _, q := range path.All(v) {
			a, _ := path.Get(v, q)
			if b, ok := path.Get(w, q); apart(p, q) && (!ok || !json.Same(a, b)) {
				t.Fatalf("Put(%s, %q, %s) changed %q", short(v), p, short(x), q)
			}
		}
		done++
	}
	if done < 5000 {
		t.Errorf("only %d were put", done)
	}
}

func TestDropByChance(t *testing.T) { // P6.2, P6.4
	r := rand.New(rand.NewSource(4))
	for range 10000 {
		v := random(r, 5)
		paths := path.All(v)
		p := randomPath(r, v)
		w, e := path.Drop(v, p)
		if !slices.Contains(paths, p) {
			if len(p) <= api.MaxPath && e != api.ErrNone || w != nil {
				t.Fatalf("Drop(%s, %q): %s, %d", short(v), p, short(w), e)
			}
			continue
		}
		if e != api.OK {
			t.Fatalf("Drop(%s, %q): %d", short(v), p, e)
		}
		from, last := "", p
		if i := strings.LastIndex(p, "."); i >= 0 {
			from, last = p[:i], p[i+1:]
		}
		a, b := v, w
		if from != "" {
			a, _ = path.Get(v, from)
			b, _ = path.Get(w, from)
		}
		switch x := a.(type) {
		case json.Object:
			if _, ok := path.Get(w, p); ok {
				t.Fatalf("Drop(%s, %q): it still leads somewhere", short(v), p)
			}
			a = slices.DeleteFunc(slices.Clone(x), func(m json.Member) bool { return m.Name == last })
		case json.List:
			var i int
			fmt.Sscan(last, &i)
			a = slices.Delete(slices.Clone(x), i, i+1)
		}
		if !json.Same(a, b) {
			t.Fatalf("Drop(%s, %q): there stands %s, want %s", short(v), p, short(b), short(a))
		}
		for _, q := range paths {
			a, _ := path.Get(v, q)
			if b, ok := path.Get(w, q); from != "" && apart(q, from) && (!ok || !json.Same(a, b)) {
				t.Fatalf("Drop(%s, %q) changed %q", short(v), p, q)
			}
		}
	}
}

// disturb changes all that a value holds, the spare room behind its lists' ends too.
func disturb(v any) {
	switch x := v.(type) {
	case json.List:
		for i := range x {
			disturb(x[i])
			x[i] = "disturbed"
		}
		_ = append(x, "more")
	case json.Object:
		for i := range x {
			disturb(x[i].Value)
			x[i] = json.Member{Name: "disturbed", Value: json.Num(i)}
		}
		_ = append(x, json.Member{Name: "more"})
	}
}

func TestNothingHandedInIsChangedOrShared(t *testing.T) { // P6.2, R4
	const text, part = `{"a":[[1],{"b":[2]}],"c":{"d":[]}}`, `[{"x":[3]}]`
	for _, p := range []string{"a", "a.0", "a.0.0", "a.0.1", "a.1.b", "a.1.b.1.y", "a.2", "a.2.z", "c.d", "c.d.0", "c.e.f", "g"} {
		v, x := read(text), read(part)
		calls := []func() any{
			func() any { w, _ := path.Get(v, p); return w },
			func() any { w, _ := path.Put(v, p, x); return w },
			func() any { w, _ := path.Drop(v, p); return w },
		}
		for i, call := range calls {
			w := call()
			same := json.Copy(w)
			if !json.Same(v, read(text)) || !json.Same(x, read(part)) {
				t.Fatalf("call %d of %q changed what it was handed", i, p)
			}
			disturb(call())
			if !json.Same(w, same) || !json.Same(v, read(text)) || !json.Same(x, read(part)) {
				t.Fatalf("call %d of %q shares memory", i, p)
			}
			disturb(v)
			disturb(x)
			if !json.Same(w, same) {
				t.Fatalf("call %d of %q answers what it was handed", i, p)
			}
			v, x = read(text), read(part)
		}
	}
}

func TestSpareRoomAndValuesWithinThemselves(t *testing.T) { // R4
	l := append(make(json.List, 0, 4), "x", "behind", "behind")
	o := append(make(json.Object, 0, 4), json.Member{Name: "a"}, json.Member{Name: "behind"})
	for _, p := range []string{"0", "1", "1.a", "a", "b", "b.c"} {
		path.Put(l[:1], p, true)
		path.Put(o[:1], p, true)
		path.Drop(l[:1], p)
		path.Drop(o[:1], p)
	}
	if !json.Same(l, read(`["x","behind","behind"]`)) || !json.Same(o, read(`{"a":null,"behind":null}`)) {
		t.Errorf("the room behind a list's end was changed: %s, %s", short(l), short(o))
	}
	v := read(`{"a":{"b":1}}`)
	if w, e := path.Put(v, "a.c", v); e != api.OK || !json.Same(w, read(`{"a":{"b":1,"c":{"a":{"b":1}}}}`)) {
		t.Errorf("Put of a value into itself: %s, %d", short(w), e)
	}
	twice := json.List{1: object()}
	twice[0] = json.List{}
	shared := json.List{twice, twice}
	w, e := path.Put(shared, "0.1.a", nil)
	if e != api.OK || !json.Same(w, read(`[[[],{"a":null}],[[],{}]]`)) {
		t.Errorf("Put into one of two that share memory: %s, %d", short(w), e)
	}
}
