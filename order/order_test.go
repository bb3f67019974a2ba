package order_test

import (
	"bytes"
	"cmp"
	"fmt"
	"math"
	"math/rand"
	"slices"
	"strings"
	"testing"

	"waywiser/api"
	"waywiser/json"
	"waywiser/order"
)

const most = 9_000_000_000_000_000_000

// read is the value of a JSON text that is one.
func read(s string) any {
	v, e := json.Parse([]byte(s))
	if e != api.OK {
		panic(s)
	}
	return v
}

// object is one of names and values by turns.
func object(parts ...any) json.Object {
	o := json.Object{}
	for i := 0; i < len(parts); i += 2 {
		o = append(o, json.Member{Name: parts[i].(string), Value: parts[i+1]})
	}
	return o
}

// nested is a value within so many lists and objects, by turns.
func nested(v any, n int) any {
	for i := range n {
		if i%2 == 0 {
			v = json.List{v}
		} else {
			v = object("a", v)
		}
	}
	return v
}

// inOrder are values, each ahead of the next one.
func inOrder() []any {
	l := []any{nil, false, true}
	for _, n := range []json.Num{-most, 1 - most, -1 << 32, -20 * api.Scale, -9 * api.Scale, -256, -255, -2, -1, 0, 1, 2, 255, 256, 9 * api.Scale, 20 * api.Scale, 1 << 32, most - 1, most} {
		l = append(l, n)
	}
	for _, s := range []string{"", "\x00", "\x00\x00", "\x00\x00\x00", "\x00\x00\x01", "\x00\x01", "\x00a", "\x00\x7f", "\x00é", "\x01", "\x01\x00", "\x01\x01", "10", "9", "A", "Z", "a", "a\x00", "a\x00\x00", "a\x00\x01", "a\x00b", "a\x01", "aa", "ab", "b", "\x7f", "é", "é\x00", "日", "\uffff", "\U00010000", "\U0010ffff", "\U0010ffff\U0010ffff"} {
		l = append(l, s)
	}
	for _, s := range []string{
		`[]`, `[null]`, `[null,null]`, `[null,{}]`, `[false]`, `[true]`, `[-2]`, `[-2,5]`, `[-1]`, `[0]`, `[1]`, `[1,1]`, `[1,2]`, `[1,2,0]`, `[2]`, `[10]`, `[""]`, `["",null]`, `["\u0000"]`, `["\u0000",null]`, `["a"]`, `["a",-1]`, `["a\u0000"]`, `["a\u0000",null]`, `[[]]`, `[[],null]`, `[[null]]`, `[[null],[]]`, `[[null,null]]`, `[{}]`, `[{"a":null}]`,
		`{}`, `{"":null}`, `{"":null,"a":null}`, `{"":false}`, `{"":{}}`, `{"\u0000":null}`, `{"A":[]}`, `{"a":null}`, `{"a":null,"":null}`, `{"a":null,"b":1}`, `{"a":null,"b":1,"a\u0000":null}`, `{"a":null,"b":2}`, `{"a":null,"c":1}`, `{"a":false}`, `{"a":-1}`, `{"a":1}`, `{"a":1,"b":null}`, `{"a":"a"}`, `{"a":[null]}`, `{"a":{}}`, `{"a":{"a":null}}`, `{"a":{"a":null},"b":null}`, `{"a":{"b":null}}`, `{"a\u0000":null}`, `{"ab":null}`, `{"b":null}`, `{"b":null,"a":null}`, `{"é":null}`,
	} {
		l = append(l, read(s))
	}
	return l
}

// short is the begin of how Go tells a value.
func short(v any) string {
	s := fmt.Sprintf("%#v", v)
	return s[:min(len(s), 200)]
}

// fault is a value that may not be, and why.
type fault struct {
	v any
	e api.Errno
}

// faults are values that may not be.
func faults() []fault {
	within := json.List{nil}
	within[0] = within
	return []fault{
		{5, api.ErrType}, {1.5, api.ErrType}, {[]any{}, api.ErrType}, {map[string]any{}, api.ErrType}, {[]byte("a"), api.ErrType}, {func() {}, api.ErrType}, {&within, api.ErrType}, {json.List{nil, int64(1)}, api.ErrType}, {object("a", struct{}{}), api.ErrType},
		{json.Num(most + 1), api.ErrRange}, {json.Num(-most - 1), api.ErrRange}, {json.Num(math.MinInt64), api.ErrRange}, {json.List{json.Num(math.MaxInt64)}, api.ErrRange},
		{"\xff", api.ErrText}, {"a\xc3", api.ErrText}, {object("\xed\xa0\x80", nil), api.ErrText},
		{nested(nil, 33), api.ErrDeep}, {nested(json.Object{}, 32), api.ErrDeep}, {within, api.ErrDeep},
		{object("a", nil, "b", nil, "a", nil), api.ErrTwice},
	}
}

func TestCompare(t *testing.T) { // P5.1
	a, b := inOrder(), inOrder()
	for i := range a {
		for j := range b {
			if c, e := order.Compare(a[i], b[j]); c != cmp.Compare(i, j) || e != api.OK {
				t.Errorf("Compare(%s, %s): %d, %d", short(a[i]), short(b[j]), c, e)
			}
			for _, n := range []int{1, 2, 31} {
				if c, e := order.Compare(nested(a[i], n), nested(b[j], n)); c != cmp.Compare(i, j) && json.Depth(a[i])+n <= api.MaxDepth && json.Depth(b[j])+n <= api.MaxDepth {
					t.Errorf("Compare(%s, %s) within %d: %d, %d", short(a[i]), short(b[j]), n, c, e)
				}
			}
		}
	}
	if c, e := order.Compare(json.List(nil), json.List{}); c != 0 || e != api.OK {
		t.Error("an empty list is like one that is nil")
	}
	if c, e := order.Compare(json.Object(nil), json.Object{}); c != 0 || e != api.OK {
		t.Error("an empty object is like one that is nil")
	}
}

func TestWhatMayNotBe(t *testing.T) { // P5.1
	for _, f := range faults() {
		if b, e := order.Key(f.v); e != f.e || len(b) > 0 {
			t.Errorf("Key(%T): %x, %d; want %d", f.v, b, e, f.e)
		}
		for _, v := range []any{nil, "a", json.List{}, json.Object{}} {
			if c, e := order.Compare(f.v, v); c != 0 || e != f.e {
				t.Errorf("Compare(%T, ..): %d, %d; want %d", f.v, c, e, f.e)
			}
			if c, e := order.Compare(v, f.v); c != 0 || e != f.e {
				t.Errorf("Compare(.., %T): %d, %d; want %d", f.v, c, e, f.e)
			}
		}
		for _, g := range faults() {
			if c, e := order.Compare(f.v, g.v); c != 0 || e != f.e {
				t.Errorf("Compare(%T, %T): %d, %d; want %d", f.v, g.v, c, e, f.e)
			}
		}
	}
}

func TestKey(t *testing.T) { // P5.1
	for _, c := range []struct {
		v    any
		want []byte
	}{
		{nil, []byte{1}}, {false, []byte{2}}, {true, []byte{3}},
		{json.Num(0), []byte{4, 128, 0, 0, 0, 0, 0, 0, 0}}, {json.Num(1), []byte{4, 128, 0, 0, 0, 0, 0, 0, 1}}, {json.Num(-1), []byte{4, 127, 255, 255, 255, 255, 255, 255, 255}}, {json.Num(0x0102030405060708), []byte{4, 129, 2, 3, 4, 5, 6, 7, 8}},
		{json.Num(most), []byte{4, 0xfc, 0xe6, 0x6c, 0x50, 0xe2, 0x84, 0, 0}}, {json.Num(-most), []byte{4, 0x03, 0x19, 0x93, 0xaf, 0x1d, 0x7c, 0, 0}},
		{"", []byte{5, 0, 1}}, {"a", []byte{5, 'a', 0, 1}}, {"\x00", []byte{5, 0, 255, 0, 1}}, {"a\x00\x00\x01b", []byte{5, 'a', 0, 255, 0, 255, 1, 'b', 0, 1}}, {"é", []byte{5, 0xc3, 0xa9, 0, 1}},
		{json.List{}, []byte{6, 0}}, {json.List(nil), []byte{6, 0}}, {json.List{nil, true, json.List{"b"}}, []byte{6, 1, 3, 6, 5, 'b', 0, 1, 0, 0}},
		{json.Object{}, []byte{7, 0}}, {json.Object(nil), []byte{7, 0}}, {object("b", false, "", object("\x00", nil)), []byte{7, 5, 'b', 0, 1, 2, 5, 0, 1, 7, 5, 0, 255, 0, 1, 1, 0, 0}},
	} {
		if b, e := order.Key(c.v); e != api.OK || !bytes.Equal(b, c.want) {
			t.Errorf("Key(%s): %v, %d; want %v", short(c.v), b, e, c.want)
		}
		if v, e := order.Unkey(c.want); e != api.OK || !json.Same(v, c.v) {
			t.Errorf("Unkey(%v): %s, %d", c.want, short(v), e)
		}
	}
}

// keyed is a value's key.
func keyed(t *testing.T, v any) []byte {
	t.Helper()
	b, e := order.Key(v)
	if e != api.OK {
		t.Fatalf("Key(%s): %d", short(v), e)
	}
	return b
}

// wantNone fails, if bytes are a key.
func wantNone(t *testing.T, b []byte, want api.Errno) {
	t.Helper()
	if v, e := order.Unkey(b); e != want || v != nil {
		t.Errorf("Unkey(%v ..): %s, %d; want %d", b[:min(len(b), 60)], short(v), e, want)
	}
}

func TestUnkeyOfNoKey(t *testing.T) { // P5.1
	for _, b := range [][]byte{
		nil, {0}, {8}, {255}, {0, 1}, {1, 1}, {1, 0}, {6, 0, 0}, {6}, {6, 0, 1}, {7}, {7, 0, 0}, {6, 8, 0}, {6, 1}, {6, 255, 0},
		{4}, {4, 128, 0, 0, 0, 0, 0, 0}, {4, 128, 0, 0, 0, 0, 0, 0, 0, 0},
		{4, 0xfc, 0xe6, 0x6c, 0x50, 0xe2, 0x84, 0, 1}, {4, 0x03, 0x19, 0x93, 0xaf, 0x1d, 0x7b, 255, 255}, {4, 0, 0, 0, 0, 0, 0, 0, 0}, {4, 255, 255, 255, 255, 255, 255, 255, 255}, // beyond the ends
		{5}, {5, 'a'}, {5, 0}, {5, 'a', 0}, {5, 0, 0}, {5, 0, 2}, {5, 0, 254}, {5, 0, 0, 1}, {5, 0, 255}, {5, 0, 255, 0}, {5, 0, 255, 1}, {5, 0, 1, 0}, {5, 'a', 0, 1, 'a'},
		{5, 255, 0, 1}, {5, 0xc3, 0, 1}, {5, 0xc3, 0, 255, 0xa9, 0, 1}, {5, 0xed, 0xa0, 0x80, 0, 1}, {5, 0xc0, 0x80, 0, 1}, {5, 0x80, 0, 1}, // not UTF-8
		{7, 5, 'a', 0, 1, 0}, {7, 5, 'a', 0, 1}, {7, 5, 'a', 0, 1, 1}, {7, 1, 1, 0}, {7, 3, 0}, {7, 6, 0, 1, 0}, {7, 'a', 0, 1, 1, 0}, {7, 5, 'a', 0, 0, 1, 0}, {7, 4, 128, 0, 0, 0, 0, 0, 0, 0, 1, 0}, {7, 5, 'a', 0, 1, 8, 0}, {7, 5, 255, 0, 1, 1, 0},
		{7, 5, 'a', 0, 1, 1, 5, 'a', 0, 1, 1, 0}, {7, 5, 0, 1, 1, 5, 'b', 0, 1, 3, 5, 0, 1, 2, 0}, {6, 7, 5, 'a', 0, 1, 1, 5, 'a', 0, 1, 2, 0, 0}, // a name twice
		slices.Concat(bytes.Repeat([]byte{6}, 33), make([]byte, 33)), slices.Concat(bytes.Repeat([]byte{6}, 32), []byte{7}, make([]byte, 33)), slices.Concat(bytes.Repeat([]byte{7, 5, 'a', 0, 1}, 33), make([]byte, 33)), // too deep
		slices.Concat(bytes.Repeat([]byte{7, 5, 'a', 0, 1}, 33), []byte{1}, make([]byte, 33)), slices.Concat(bytes.Repeat([]byte{7, 5, 'a', 0, 1}, 32), []byte{6}, make([]byte, 33)),
		bytes.Repeat([]byte{6}, 1<<17), bytes.Repeat([]byte{7}, 1<<17), bytes.Repeat([]byte{5}, 1<<17), bytes.Repeat([]byte{0}, 1<<17), slices.Concat([]byte{6}, bytes.Repeat([]byte{1}, 1<<17-1)),
	} {
		wantNone(t, b, api.ErrForm)
	}
	for _, v := range inOrder() {
		b := keyed(t, v)
		for n := range b {
			wantNone(t, b[:n], api.ErrForm)
		}
		for c := range 256 {
			wantNone(t, append(slices.Clone(b), byte(c)), api.ErrForm)
		}
	}
}

func TestUnkeyOfLongKeys(t *testing.T) { // P5.1
	text := func(length int) []byte { // a text's key of so many bytes
		return slices.Concat([]byte{5}, bytes.Repeat([]byte{'a'}, length-3), []byte{0, 1})
	}
	if v, e := order.Unkey(text(1 << 17)); e != api.OK || v != strings.Repeat("a", 1<<17-3) {
		t.Errorf("Unkey of the longest key: %s, %d", short(v), e)
	}
	long := slices.Concat([]byte{6}, bytes.Repeat([]byte{1}, 1<<17-2), []byte{0})
	if v, e := order.Unkey(long); e != api.OK || len(v.(json.List)) != 1<<17-2 {
		t.Errorf("Unkey of the longest list: %d", e)
	}
	wantNone(t, text(1<<17+1), api.ErrLong)
	wantNone(t, make([]byte, 1<<17+1), api.ErrLong)
	wantNone(t, make([]byte, 1<<20), api.ErrLong)
	wide := json.List{}
	for range 20 {
		wide = append(wide, json.List{}, object(), nested(nil, 31), nested(json.List{}, 30))
	}
	for _, v := range []any{nested(nil, 32), nested(json.List{}, 31), nested(json.Object{}, 31), wide} {
		if w, e := order.Unkey(keyed(t, v)); e != api.OK || !json.Same(v, w) {
			t.Errorf("Unkey of the deepest values: %s, %d", short(w), e)
		}
	}
}

// alphabet are the bytes of which short keys are made.
const alphabet = "\x00\x01\x02\x03\x04\x05\x06\x07\x08a\xff"

// shortKeys are all keys of at most so many bytes that can be made of the alphabet, by the document's words.
func shortKeys(most int) (out []string) {
	signs := append([]string{"\x00\xff"}, strings.Split(strings.Trim(alphabet, "\x00\xff"), "")...)
	var texts func(begin string, most int) []string
	texts = func(begin string, most int) (out []string) {
		if most < 2 {
			return nil
		}
		out = append(out, begin+"\x00\x01")
		for _, s := range signs {
			out = append(out, texts(begin+s, most-len(s))...)
		}
		return out
	}
	named := func(s string) string { return s[:strings.Index(s, "\x00\x01")] }
	var members func(begin string, names []string, most int) []string
	members = func(begin string, names []string, most int) (out []string) {
		if most < 1 {
			return nil
		}
		out = append(out, begin+"\x00")
		for _, name := range texts("\x05", most-2) {
			if slices.Contains(names, named(name)) {
				continue
			}
			for _, v := range shortKeys(most - len(name) - 1) {
				out = append(out, members(begin+name+v, append(slices.Clone(names), named(name)), most-len(name)-len(v))...)
			}
		}
		return out
	}
	var items func(begin string, most int) []string
	items = func(begin string, most int) (out []string) {
		if most < 1 {
			return nil
		}
		out = append(out, begin+"\x00")
		for _, v := range shortKeys(most - 1) {
			out = append(out, items(begin+v, most-len(v))...)
		}
		return out
	}
	if most < 1 {
		return nil
	}
	out = append(out, "\x01", "\x02", "\x03")
	out = append(out, texts("\x05", most-1)...)
	out = append(out, items("\x06", most-1)...)
	return append(out, members("\x07", nil, most-1)...)
}

func TestAllShortKeys(t *testing.T) { // P5.1, P5.3
	const most = 6
	keys := map[string]int{}
	for _, k := range shortKeys(most) {
		keys[k]++
	}
	read := 0
	var all func(b []byte)
	all = func(b []byte) {
		v, e := order.Unkey(b)
		if is := keys[string(b)] > 0; is != (e == api.OK) || !is && (e != api.ErrForm || v != nil) {
			t.Fatalf("Unkey(%v): %s, %d; is it a key: %t", b, short(v), e, is)
		}
		if e == api.OK {
			read++
			if k := keyed(t, v); !bytes.Equal(k, b) {
				t.Fatalf("Key of Unkey(%v): %v", b, k)
			}
		}
		for i := 0; i < len(alphabet) && len(b) < most; i++ {
			all(append(b[:len(b):len(b)], alphabet[i]))
		}
	}
	all(nil)
	if read != len(keys) || read < 100 {
		t.Errorf("of %d keys %d were read", len(keys), read)
	}
}

func TestPrefix(t *testing.T) { // P5.2
	for _, c := range []struct{ b, want []byte }{
		{nil, nil}, {[]byte{}, nil}, {[]byte{255}, nil}, {bytes.Repeat([]byte{255}, 100), nil},
		{[]byte{0}, []byte{1}}, {[]byte{254}, []byte{255}}, {[]byte{127}, []byte{128}}, {[]byte{128}, []byte{129}}, {[]byte{0xc3, 0xa9}, []byte{0xc3, 0xaa}}, {[]byte{1, 2, 3}, []byte{1, 2, 4}}, {[]byte{1, 255}, []byte{2}}, {[]byte{1, 255, 255}, []byte{2}}, {[]byte{128, 255, 255}, []byte{129}}, {[]byte{255, 0}, []byte{255, 1}}, {[]byte{255, 0, 255}, []byte{255, 1}}, {[]byte{255, 254, 255}, []byte{255, 255}}, {[]byte{1, 255, 2}, []byte{1, 255, 3}}, {[]byte{0, 0}, []byte{0, 1}}, {[]byte("\xef\xbf\xbd\xff"), []byte("\xef\xbf\xbe")},
	} {
		if p := order.Prefix(c.b); !bytes.Equal(p, c.want) {
			t.Errorf("Prefix(%v): %v, want %v", c.b, p, c.want)
		}
	}
	for c := range 255 {
		if p := order.Prefix([]byte{7, byte(c), 255}); !bytes.Equal(p, []byte{7, byte(c) + 1}) {
			t.Errorf("Prefix of a byte %d: %v", c, p)
		}
	}
}

func TestPrefixIsTheLeastAbove(t *testing.T) { // P5.2
	l := [][]byte{nil}
	for i := 0; len(l) < 1000; i++ {
		for _, c := range []byte{0, 1, 128, 254, 255} {
			l = append(l, append(slices.Clone(l[i]), c))
		}
	}
	for _, b := range l {
		p := order.Prefix(b)
		for _, s := range l {
			above := !bytes.HasPrefix(s, b) && bytes.Compare(s, b) > 0
			if got := len(p) > 0 && bytes.Compare(s, p) >= 0; got != above {
				t.Fatalf("Prefix(%v): %v; is %v above: %t", b, p, s, above)
			}
		}
	}
}

// random is a value by chance, at most so deep, of few signs, so that others often begin like it.
func random(r *rand.Rand, deep int) any {
	kinds := 8
	if deep == 0 {
		kinds = 6
	}
	switch r.Intn(kinds) {
	case 0:
		return nil
	case 1:
		return r.Intn(2) == 0
	case 2:
		return json.Num(r.Int63n(5) - 2)
	case 3:
		return json.Num((r.Int63n(2*(most/2)) - most/2) >> r.Intn(63))
	case 4, 5:
		return randomText(r)
	case 6:
		l := json.List{}
		for range r.Intn(4) {
			l = append(l, random(r, deep-1))
		}
		return l
	}
	o := json.Object{}
	for range r.Intn(4) {
		m := json.Member{Name: randomText(r), Value: random(r, deep-1)}
		if _, twice := json.Field(o, m.Name); !twice {
			o = append(o, m)
		}
	}
	return o
}

func randomText(r *rand.Rand) string {
	var b strings.Builder
	for range r.Intn(4) {
		b.WriteRune([]rune{0, 1, 2, 'a', 'b', 0xff, 0xfffd, 0x10ffff}[r.Intn(8)])
	}
	return b.String()
}

func TestKeysHaveTheOrderOfTheirValues(t *testing.T) { // P5.3
	r := rand.New(rand.NewSource(5))
	l := inOrder()
	for range 800 {
		l = append(l, random(r, r.Intn(5)))
	}
	keys := make([][]byte, len(l))
	for i, v := range l {
		keys[i] = keyed(t, v)
		if w, e := order.Unkey(keys[i]); e != api.OK || !json.Same(v, w) {
			t.Fatalf("Unkey(%v): %s, %d; want %s", keys[i], short(w), e, short(v))
		}
	}
	for i, a := range l {
		for j, b := range l {
			c, e := order.Compare(a, b)
			if e != api.OK || c != bytes.Compare(keys[i], keys[j]) || (c == 0) != json.Same(a, b) {
				t.Fatalf("Compare(%s, %s): %d, %d; keys %v, %v", short(a), short(b), c, e, keys[i], keys[j])
			}
			if c != 0 && bytes.HasPrefix(keys[i], keys[j]) {
				t.Fatalf("the key %v begins %v", keys[j], keys[i])
			}
		}
	}
}

func TestUnkeyOfBytesByChance(t *testing.T) { // P5.1, R1
	r := rand.New(rand.NewSource(6))
	for range 200000 {
		b := keyed(t, random(r, 4))
		for range 1 + r.Intn(2) {
			i := r.Intn(len(b))
			switch r.Intn(3) {
			case 0:
				b[i] = []byte{0, 1, 4, 5, 6, 7, 255, byte(r.Intn(256))}[r.Intn(8)]
			case 1:
				b = slices.Insert(b, i, byte(r.Intn(9)))
			case 2:
				b = append(slices.Delete(b, i, i+1), byte(r.Intn(9)))
			}
		}
		v, e := order.Unkey(b)
		if e != api.OK && (e != api.ErrForm || v != nil) {
			t.Fatalf("Unkey(%v): %s, %d", b, short(v), e)
		}
		if e == api.OK && !bytes.Equal(keyed(t, v), b) {
			t.Fatalf("Unkey(%v) is %s, whose key is another one", b, short(v))
		}
	}
}

func TestMemory(t *testing.T) { // R4
	made := func() any { return read(`{"a":["b",null,{}],"\u0000":1}`) }
	v := made()
	a, b := keyed(t, v), keyed(t, v)
	clear(a[:cap(a)])
	if c := keyed(t, v); !bytes.Equal(b, c) {
		t.Errorf("two keys of a value share memory: %v, %v", b, c)
	}
	order.Compare(v, v)
	x, _ := order.Unkey(b)
	y, _ := order.Unkey(b)
	clear(b)
	x.(json.Object)[0].Value.(json.List)[2] = "disturbed"
	if !json.Same(y, made()) || !json.Same(v, made()) {
		t.Errorf("values of a key share memory: %s, %s", short(y), short(v))
	}
	room := []byte{1, 2, 255, 4, 5}
	p := order.Prefix(room[:3])
	if q := order.Prefix(room[:2]); !bytes.Equal(p, []byte{1, 3}) || !bytes.Equal(q, []byte{1, 3}) {
		t.Errorf("Prefix: %v, %v", p, q)
	}
	clear(p[:cap(p)])
	if !bytes.Equal(room, []byte{1, 2, 255, 4, 5}) {
		t.Errorf("Prefix changed what it was handed: %v", room)
	}
}
