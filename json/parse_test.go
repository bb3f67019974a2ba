package json_test

import (
	stdjson "encoding/json"
	"fmt"
	"math/rand"
	"reflect"
	"slices"
	"strings"
	"testing"
	"unicode/utf8"

	"waywiser/api"
	"waywiser/json"
)

// wantError fails, if Parse does not tell e, and nothing beside it.
func wantError(t *testing.T, text string, e api.Errno) {
	t.Helper()
	if v, got := json.Parse([]byte(text)); got != e || v != nil {
		t.Errorf("Parse(%.200q): %v, %d; want %d", text, v, got, e)
	}
}

// wantValue fails, if Parse does not tell v.
func wantValue(t *testing.T, text string, v any) {
	t.Helper()
	got, e := json.Parse([]byte(text))
	if e != api.OK || !json.Same(got, v) || !reflect.DeepEqual(got, v) {
		t.Errorf("Parse(%.200q): %s, %d; want %s", text, short(got), e, short(v))
	}
}

// wantPlain fails, if what is parsed has another plain text.
func wantPlain(t *testing.T, text, plain string) {
	t.Helper()
	v, e := json.Parse([]byte(text))
	if e != api.OK {
		t.Errorf("Parse(%.200q): %d", text, e)
		return
	}
	if b, e := json.Print(v); e != api.OK || string(b) != plain {
		t.Errorf("Print of %.200q: %.200q, %d; want %.200q", text, b, e, plain)
	}
}

func TestParseValues(t *testing.T) { // P4.1
	wantValue(t, "null", nil)
	wantValue(t, "true", true)
	wantValue(t, "false", false)
	wantValue(t, "0", json.Num(0))
	wantValue(t, "-0", json.Num(0))
	wantValue(t, "-12.5e-1", json.Num(-12500000))
	wantValue(t, "900000000000", json.Num(9000000000000000000))
	wantValue(t, `""`, "")
	wantValue(t, `"a b"`, "a b")
	wantValue(t, `[1,"x",[null]]`, json.List{json.Num(10000000), "x", json.List{nil}})
	wantValue(t, `{"b":true,"a":{"b":[false]},"":1}`, json.Object{{"b", true}, {"a", json.Object{{"b", json.List{false}}}}, {"", json.Num(10000000)}})
	for text, want := range map[string]any{"[]": json.List(nil), "{}": json.Object(nil), "[[]]": json.List{json.List{}}, `{"a":{}}`: json.Object{{"a", json.Object{}}}} {
		if got, e := json.Parse([]byte(text)); e != api.OK || !json.Same(got, want) {
			t.Errorf("Parse(%q): %#v, %d", text, got, e)
		}
	}
	wantPlain(t, ` {"a":[1.50,null,"\u00e9\/"]} `, `{"a":[1.5,null,"é/"]}`)
}

func TestParseBlanks(t *testing.T) { // P4.1
	const blanks = " \t\n\r  \r\n\t\t"
	for _, l := range [][]string{
		{"null"}, {"true"}, {"-1.5"}, {`"x"`}, {"[", "]"}, {"{", "}"}, {"[", "1", ",", "[", "]", ",", "{", "}", ",", `"a b"`, "]"}, {"{", `"a"`, ":", "1", ",", `"b"`, ":", "[", "null", "]", "}"},
	} {
		plain := strings.Join(l, "")
		wantPlain(t, plain, plain)
		wantPlain(t, blanks+strings.Join(l, blanks)+blanks, plain)
		for _, blank := range strings.Split(" \t\n\r", "") {
			wantPlain(t, blank+strings.Join(l, blank)+blank, plain)
		}
	}
	for _, none := range []string{"\x00", "\v", "\f", "\b", "\u0085", "\u00a0", "\u1680", "\u2000", "\u2028", "\u3000", "\ufeff", "\x1f", "\x85", "\xa0", "//\n", "/**/"} {
		for _, text := range []string{none + "1", "1" + none, "[" + none + "1]", "[1" + none + "]", "[1," + none + "1]", `{` + none + `"a":1}`, `{"a"` + none + `:1}`, `{"a":` + none + `1}`} {
			wantError(t, text, api.ErrText)
		}
	}
}

func TestParseTellsWhatIsNoText(t *testing.T) { // P4.1
	for _, text := range []string{
		"", " ", "\n\t ", "nul", "nulll", "null null", "NULL", "Null", "n ull", "tru", "truefalse", "True", "fals", "false,", "None", "undefined", "NaN", "Infinity", "-Infinity", "-", "+1", "01", "-01", "1.", ".5", "1.e5", "1e", "1e+", "0x1", "1 2", "1,2", "--1", "1_0",
		"[", "]", "[,", "[,]", "[,1]", "[1,]", "[1,,2]", "[1 2]", "[1", "[1,", "[1]]", "[1}", "[[1]", "(1)", "[nul]", `["a]`, "[1:2]", `["a":1]`, "[01]", "[1.]", "[-]",
		"{", "}", "{,}", "{]", `{"a"}`, `{"a":}`, `{"a":1,}`, `{,"a":1}`, `{"a":1,,"b":2}`, `{"a":1 "b":2}`, `{"a" 1}`, `{"a",1}`, `{"a"::1}`, `{a:1}`, `{'a':1}`, `{1:1}`, `{null:1}`, `{"a":1`, `{"a":1]`, `{"a":1}}`, `{"a`, `{"a"`, `{"a":`, `{"a":1,`, `{"a":1,"b"`, `{[]:1}`, `{"a":1;"b":2}`, `{"a"=1}`,
		`"`, `"a`, `a"`, `'a'`, `"a""b"`, `"a"b`, "`a`", "\xff", "[\xff]", "\xc3", "é", "[1,é]", "null\xff", "\x00", "1\x00", "#1", "1#", "1//", "\ufeff1", "\ufffd", "\\u0031", "\"\\",
	} {
		wantError(t, text, api.ErrText)
	}
	wantError(t, string([]byte(nil)), api.ErrText)
	if v, e := json.Parse(nil); v != nil || e != api.ErrText {
		t.Errorf("Parse of nothing: %v, %d", v, e)
	}
}

func TestParseEscapes(t *testing.T) { // P4.1
	for text, want := range map[string]string{
		`\"`: "\"", `\\`: "\\", `\/`: "/", `\b`: "\b", `\f`: "\f", `\n`: "\n", `\r`: "\r", `\t`: "\t", `\\n`: `\n`, `\\\"`: `\"`, `a\tb\\`: "a\tb\\", `/`: "/", `'`: "'",
		`\u0000`: "\x00", `\u001f`: "\x1f", `\u0041`: "A", `\u0022`: "\"", `\u005c`: "\\", `\u005cn`: "\\n", `\u00e9\u00E9`: "éé", `\u00Ff`: "ÿ", `\uAbCd`: "\uabcd", `\u20AC5`: "€5", `x\u0041y`: "xAy", `\uffff`: "\uffff", `\ufffd`: "\ufffd", `\uFEFF`: "\ufeff",
		`\ud7ff`: "\ud7ff", `\ue000`: "\ue000", `\ud800\udc00`: "\U00010000", `\uD83D\uDE00`: "😀", `\ud83d\ude00\u0041`: "😀A", `\udbff\udfff`: "\U0010ffff", `\uDBFF\uDC00`: "\U0010fc00", `\ud800\udfff`: "\U000103ff", `é\n日本😀`: "é\n日本😀", "\x7f\u0080\u2028\ufffd\ufeff\U0010ffff": "\x7f\u0080\u2028\ufffd\ufeff\U0010ffff",
	} {
		wantValue(t, `"`+text+`"`, want)
		wantValue(t, `{"`+text+`":["`+text+`"]}`, json.Object{{want, json.List{want}}})
	}
}

func TestParseTellsWhatNoTextHas(t *testing.T) { // P4.1
	bad := []string{
		`\`, `\a`, `\v`, `\0`, `\x41`, `\'`, `\ `, `\U0041`, `\B`, `\N`, `\e`, `\é`, "\\\n", "\\\x00", "\\\xff", `\u`, `\u0`, `\u00`, `\u004`, `\u004g`, `\u00 41`, `\u+041`, `\u-041`, `\u0x41`, `\u00_1`, `\uu0041`, `\u{41}`, `\u00é1`, `\u004１`, "\\u004\xff", "\\u004\"", `\u004\`,
		`\ud800`, `\udbff`, `\udc00`, `\udfff`, `\ud800x`, `\ud800\n`, `\ud800\\`, `\ud800\u0041`, `\ud800\ud800`, `\ud800\udbff`, `\ud800\ue000`, `\udc00\ud800`, `\udc00\udc00`, `\ud800\ud800\udc00`, `\ud800\udc00\udc00`, `\ud800\udc0`, `\ud800\u`, `\ud800\`, `\ud800 \udc00`, `\ud800udc00`, `\ud800\xdc00`, `\ud800\udcgg`, `\udc00\udc00\udc00`, `\udfff\ud800\udc00`,
		"\x80", "\xbf", "\xc0\x80", "\xc1\xbf", "\xc3", "\xc3(", "\xe2\x82", "\xe2\x28\xa1", "\xe0\x80\x80", "\xed\xa0\x80", "\xed\xbf\xbf", "\xf0\x80\x80\x80", "\xf4\x90\x80\x80", "\xf8\x88\x80\x80\x80", "\xfe", "\xff", "é\xff", "\xffé", "\ufffd\xff", "\xc3\\u00e9", "\xed\xa0\x80\xed\xb0\x80",
	}
	for c := range 32 {
		bad = append(bad, string(rune(c)), "a"+string(rune(c))+"b")
	}
	for _, text := range bad {
		wantError(t, `"`+text+`"`, api.ErrText)
		wantError(t, `"a`+text+`z"`, api.ErrText)
		wantError(t, `"`+text, api.ErrText)
		wantError(t, `{"`+text+`":1}`, api.ErrText)
		wantError(t, `["`+text+`"]`, api.ErrText)
	}
}

func TestParseSurrogates(t *testing.T) { // P4.1
	ends := []int{0, 0x41, 0xd7ff, 0xd800, 0xd801, 0xdbff, 0xdc00, 0xdc01, 0xdfff, 0xe000, 0xffff}
	for _, a := range ends {
		for _, b := range ends {
			text := fmt.Sprintf(`"\u%04x\u%04X"`, a, b)
			single := func(n int) bool { return n >= 0xd800 && n <= 0xdfff }
			switch {
			case !single(a) && !single(b):
				wantValue(t, text, string(rune(a))+string(rune(b)))
			case a >= 0xd800 && a < 0xdc00 && b >= 0xdc00 && b < 0xe000:
				wantValue(t, text, string(rune(0x10000+(a-0xd800)*0x400+b-0xdc00)))
			default:
				wantError(t, text, api.ErrText)
			}
		}
	}
}

func TestParseDepth(t *testing.T) { // P4.1
	for n := 0; n <= api.MaxDepth; n++ {
		deep := strings.Repeat("[", n) + "1" + strings.Repeat("]", n)
		wantPlain(t, deep, deep)
		deep = strings.Repeat(`{"a":`, n) + "null" + strings.Repeat("}", n)
		wantPlain(t, deep, deep)
		deep = strings.Repeat("[", n) + strings.Repeat("]", n)
		if n > 0 {
			wantPlain(t, deep, deep)
		}
		wide := strings.Repeat("[[],{},", n) + "1" + strings.Repeat("]", n)
		if n < api.MaxDepth {
			wantPlain(t, wide, wide)
		} else {
			wantError(t, wide, api.ErrDeep)
		}
	}
	wantPlain(t, "["+strings.Repeat("[],{},", 100)+"1]", "["+strings.Repeat("[],{},", 100)+"1]")
	lists, objects := strings.Repeat("[", 32), strings.Repeat(`{"a":`, 32)
	mixed := strings.Repeat(`[{"a":`, 16)
	for _, within := range []string{lists, objects, mixed, "[1,[[2]]," + lists[1:], "  [\n" + lists[1:] + "1 , "} {
		for _, text := range []string{"[", "{", "[]", "{}", "[1", "{x", "[\xff", `{"a":1,"a"`, "[1e99", "[" + strings.Repeat("]", 33), " [", "\n{"} {
			wantError(t, within+text, api.ErrDeep)
		}
		for _, text := range []string{"", "(", "x[", "\xff[", `"[`, ":[", "]["} {
			wantError(t, within+text, api.ErrText)
		}
	}
	wantError(t, strings.Repeat("[", 33), api.ErrDeep)
	wantError(t, strings.Repeat("[", api.MaxText), api.ErrDeep)
	wantError(t, strings.Repeat("[", api.MaxText+1), api.ErrLong)
	wantError(t, lists+"]"+strings.Repeat("[", 3), api.ErrText)
	wantError(t, lists+"],[[", api.ErrDeep)
}

func TestParseNumbers(t *testing.T) { // P4.1
	for _, number := range []string{"1e99", "-1e99", "1e-8", "0.00000001", "900000000000.0000001", "-900000000001", "99999999999999999999", "1e999999999999999999999"} {
		for _, text := range []string{"%s", " %s ", "[%s]", "[%s", `{"a":%s`, "[0,%s", "[%s x", "%s]", "%s,", "%s\xff", "%s 1", "%s.", "%sx", "[%s-", "[%s,[}", `{"a":%s,"a":1}`} {
			wantError(t, strings.Replace(text, "%s", number, 1), api.ErrNumber)
		}
		for _, text := range []string{"x%s", "[,%s", "\xff%s", `"%s`, "0 %s", "{%s:1}", "-%s-", `{"a" %s}`} {
			if text == "-%s-" && number[0] != '-' {
				continue
			}
			wantError(t, strings.Replace(text, "%s", number, 1), api.ErrText)
		}
	}
}

func TestParseNames(t *testing.T) { // P4.1
	for _, text := range []string{
		`{"a":1,"a":2}`, `{"a":1,"a"`, `{"a":1,"a"x`, `{"a":1,"a":1e99}`, `{"a":1,"a":x`, `{"a":1,"\u0061":2}`, `{"":1,"":2}`, `{"a":1,"b":2,"a":3}`, `{"b":1,"a":2,"a":3}`, `{"a":{"b":1,"b"`, `[{"a":null,"a":null}]`, `{"é":1,"\u00E9":2}`, `{"\ud83d\ude00":1,"😀":2}`, `{"\/":1,"/":2}`, `{ "a" : 1 , "a" : 1 }`, "{\"a\":1,\"a\"\xff",
	} {
		wantError(t, text, api.ErrTwice)
	}
	for _, text := range []string{`{"a":1,"a`, `{"a":1,"a\"`, `{"a":1"a"`, `{"a":1,,"a"`, `{"a":1,a`, "{\"a\":1,\"a\xff\"", `{"a":1,["a"`, `{"a":x,"a":1}`} {
		wantError(t, text, api.ErrText)
	}
	for _, text := range []string{`{"a":1,"A":2}`, `{"a":{"a":{"a":1}},"b":{"a":1}}`, `[{"a":1},{"a":1}]`, `{"a":"a","b":["a"]}`, `{"a":1,"a ":2}`, "{\"\u00e9\":1,\"e\u0301\":2}"} {
		wantPlain(t, text, text)
	}
	var b strings.Builder
	for i := range 7000 {
		fmt.Fprintf(&b, `,"%x":0`, i)
	}
	many := b.String()[1:]
	wantPlain(t, "{"+many+"}", "{"+many+"}")
	wantError(t, "{"+many+`,"1b57":`, api.ErrTwice)
	wantError(t, "{"+many+`,"0"`, api.ErrTwice)
	wantPlain(t, "{"+many+`,"1b58":1}`, "{"+many+`,"1b58":1}`)
}

func TestParseTellsTheFirstFault(t *testing.T) { // P4.1
	deep := strings.Repeat("[", 31) + "[" // behind the bracket of the row itself
	faults := []struct {
		text string
		e    api.Errno
	}{{"x", api.ErrText}, {"\"\xff\"", api.ErrText}, {`"\ud800"`, api.ErrText}, {"01", api.ErrText}, {"1.", api.ErrText}, {"[1 2]", api.ErrText}, {"{1}", api.ErrText}, {deep, api.ErrDeep}, {deep + "1e99", api.ErrDeep}, {"1e99", api.ErrNumber}, {"1e-9", api.ErrNumber}, {"[1e99]", api.ErrNumber}, {`{"a":1,"a":2}`, api.ErrTwice}, {`{"":1e1,""`, api.ErrTwice}}
	for _, a := range faults {
		wantError(t, "["+a.text, a.e)
		wantError(t, "["+a.text+"]", a.e)
		for _, b := range faults {
			wantError(t, "["+a.text+","+b.text+"]", a.e)
			wantError(t, "[ null , [true, "+a.text+" , "+b.text, a.e)
			wantError(t, `{"x":`+a.text+`,"x":`+b.text+"}", a.e)
		}
	}
}

func TestParseOfLongTexts(t *testing.T) { // P4.1
	text := `"` + strings.Repeat("a", api.MaxText-2) + `"`
	wantValue(t, text, text[1:len(text)-1])
	wantError(t, text+" ", api.ErrLong)
	wantError(t, " "+text, api.ErrLong)
	wantError(t, strings.Repeat(" ", api.MaxText), api.ErrText)
	wantError(t, strings.Repeat(" ", api.MaxText+1), api.ErrLong)
	wantValue(t, strings.Repeat(" ", api.MaxText-1)+"1", json.Num(api.Scale))
	wantError(t, strings.Repeat("x", api.MaxText+1), api.ErrLong)
	wantError(t, "1e99"+strings.Repeat(" ", api.MaxText), api.ErrLong)
	list := "[" + strings.Repeat("1,", api.MaxText/2-2) + "1.5" // as long as may be without its end
	wantError(t, list, api.ErrText)
	wantPlain(t, list[:len(list)-2]+"]", list[:len(list)-2]+"]")
	wantValue(t, strings.Repeat("9", 3)+"."+strings.Repeat("0", api.MaxText-4), json.Num(999*api.Scale))
}

func TestParsedIsNewMemory(t *testing.T) { // R4
	const text = `{"name":["text",[1],[2],{"a":"b"}],"other":"x"}`
	room := append([]byte(text), "spare room"...)
	v, e := json.Parse(room[:len(text)])
	if e != api.OK || string(room) != text+"spare room" {
		t.Fatalf("what was handed in was changed: %q, %d", room, e)
	}
	w, _ := json.Parse(room[:len(text)])
	for i := range room {
		room[i] = '9'
	}
	if b, _ := json.Print(v); string(b) != text {
		t.Errorf("what was handed in was kept: %q", b)
	}
	l := v.(json.Object)[0].Value.(json.List)
	l[1] = append(l[1].(json.List), "more")
	l[1].(json.List)[0] = "other"
	v.(json.Object)[0].Name = "changed"
	if b, _ := json.Print(w); string(b) != text {
		t.Errorf("two answers share memory: %q", b)
	}
	if b, _ := json.Print(v); string(b) != `{"changed":["text",["other","more"],[2],{"a":"b"}],"other":"x"}` {
		t.Errorf("two lists of one answer share memory: %q", b)
	}
}

// oracle reads texts of which it is sure: whether one is a JSON text at all.
func oracle(text string) bool {
	if !stdjson.Valid([]byte(text)) || !utf8.ValidString(text) {
		return false
	}
	for i := 0; i < len(text); i++ { // no single surrogates
		if text[i] != '\\' {
			continue
		}
		i++
		if text[i] != 'u' {
			continue
		}
		unit := strings.ToLower(text[i+1 : i+5])
		if unit < "d800" || unit > "dfff" {
			continue
		}
		rest := strings.ToLower(text[i+5:])
		if unit >= "dc00" || len(rest) < 6 || rest[:2] != `\u` || rest[2:6] < "dc00" || rest[2:6] > "dfff" {
			return false
		}
		i += 10
	}
	return true
}

// wantOracle fails, if Parse tells that a text is one that is none, or otherwise. Where another error comes first, the oracle tells nothing.
func wantOracle(t *testing.T, text string) {
	t.Helper()
	v, e := json.Parse([]byte(text))
	if (e == api.OK) && !oracle(text) || e == api.ErrText && oracle(text) {
		t.Fatalf("Parse(%q): %v, %d", text, v, e)
	}
	if e != api.OK {
		return
	}
	plain, _ := json.Print(v)
	var a, b any
	if stdjson.Unmarshal([]byte(text), &a) != nil || stdjson.Unmarshal(plain, &b) != nil || !reflect.DeepEqual(a, b) {
		t.Fatalf("Parse(%q): %q", text, plain)
	}
}

func TestParseLikeAnother(t *testing.T) { // P4.1
	pieces := []string{"[", "]", "{", "}", ",", ":", `"`, `"a"`, `"b"`, `\`, `\"`, `\n`, `\u00e9`, `\ud83d`, `\ude00`, "é", "\xc3", "\xff", " ", "\n", "\t", "\x00", "null", "true", "false", "nul", "0", "1", "-", ".", "e", "5.25", "1e2", "-0.5", "{}", "[]", `{"a":`, `"b":1`, "[1,2]", "x"}
	r := rand.New(rand.NewSource(6))
	seeds := []string{`{"a":[1.50,null,"\u00e9\/"],"b":{}}`, `[[],{},"",0,-1.5e1,true,false,null]`, ` { "x" : [ "\ud83d\ude00" , { "y" : "é\"\\" } ] } `, `"a\tb"`, `-12.5`}
	for _, seed := range seeds {
		wantOracle(t, seed)
		for i := range len(seed) + 1 {
			wantOracle(t, seed[:i])
			wantOracle(t, seed[i:])
			for _, p := range pieces {
				wantOracle(t, seed[:i]+p+seed[i:])
				if i < len(seed) {
					wantOracle(t, seed[:i]+p+seed[i+1:])
				}
			}
		}
	}
	for range 200000 {
		l := strings.Split(seeds[r.Intn(len(seeds))], "")
		for range 1 + r.Intn(3) {
			i := r.Intn(len(l) + 1)
			switch r.Intn(3) {
			case 0:
				l = slices.Insert(l, i, pieces[r.Intn(len(pieces))])
			case 1:
				l = append(l[:min(i, len(l)-1)], l[min(i+1, len(l)):]...)
			case 2:
				l = append(l[:i], pieces[r.Intn(len(pieces))])
			}
			if len(l) == 0 {
				break
			}
		}
		wantOracle(t, strings.Join(l, ""))
	}
}
