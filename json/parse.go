package json

import (
	"strconv"
	"strings"
	"unicode/utf8"

	"waywiser/api"
	"waywiser/num"
)

// fault is why a text is none: the panic that ends its reading.
type fault struct{ why api.Errno }

// reader goes through a text; rest is what was not read yet.
type reader struct {
	rest  string
	depth int // in how many lists and objects it is
}

// Parse reads a JSON text.
func Parse(b []byte) (any, api.Errno) {
	if len(b) > api.MaxText {
		return nil, api.ErrLong
	}
	return read(string(b))
}

// read takes back the panic of a text that is none; another panic would be a fault of the program, and goes on.
func read(text string) (v any, e api.Errno) {
	defer func() {
		if p := recover(); p != nil {
			v, e = nil, p.(fault).why
		}
	}()
	r := &reader{rest: text}
	v = r.value()
	r.skip()
	if r.rest != "" {
		panic(fault{api.ErrText})
	}
	return v, api.OK
}

// value reads a value, with the blanks ahead of it.
func (r *reader) value() any {
	r.skip()
	switch {
	case r.took("null"):
		return nil
	case r.took("true"):
		return true
	case r.took("false"):
		return false
	case r.took(`"`):
		return r.text()
	case r.took("["):
		return r.list()
	case r.took("{"):
		return r.object()
	}
	return r.number()
}

// list reads one behind its first bracket.
func (r *reader) list() List {
	l := List{}
	r.items("]", func() {
		l = append(l, r.value())
	})
	return l
}

// object reads one behind its first bracket.
func (r *reader) object() Object {
	o, there := Object{}, names{}
	r.items("}", func() {
		r.take(`"`)
		name := r.text()
		if !there.add(name) {
			panic(fault{api.ErrTwice})
		}
		r.take(":")
		o = append(o, Member{name, r.value()})
	})
	return o
}

// items reads what stands behind a first bracket, up to the last one, with commas between, each by a call of item.
func (r *reader) items(end string, item func()) {
	if r.depth == api.MaxDepth {
		panic(fault{api.ErrDeep})
	}
	r.depth++
	if !r.took(end) {
		item()
		for r.took(",") {
			item()
		}
		r.take(end)
	}
	r.depth--
}

// number reads one that begins here.
func (r *reader) number() Num {
	length := num.Scan(r.rest)
	if length == 0 {
		panic(fault{api.ErrText})
	}
	n, e := num.Parse(r.rest[:length])
	if e != api.OK {
		panic(fault{e})
	}
	r.rest = r.rest[length:]
	return Num(n)
}

// text reads one behind its first sign.
func (r *reader) text() string {
	var b strings.Builder
	read := 0 // so many bytes were read along with an escape
	for i, c := range r.rest {
		switch {
		case i < read:
		case c == '"':
			r.rest = r.rest[i+1:]
			return b.String()
		case c == '\\':
			sign, length := escape(r.rest[i:])
			b.WriteRune(sign)
			read = i + length
		case c < ' ' || c == utf8.RuneError && !strings.HasPrefix(r.rest[i:], string(c)):
			panic(fault{api.ErrText})
		default:
			b.WriteRune(c)
		}
	}
	panic(fault{api.ErrText})
}

// skip leaves blanks out.
func (r *reader) skip() {
	for i, c := range r.rest {
		if !strings.ContainsRune(" \t\n\r", c) {
			r.rest = r.rest[i:]
			return
		}
	}
	r.rest = ""
}

// took reads a piece, with the blanks ahead of it, if it comes now.
func (r *reader) took(piece string) bool {
	r.skip()
	rest, comes := strings.CutPrefix(r.rest, piece)
	r.rest = rest
	return comes
}

// take reads a piece that must come now.
func (r *reader) take(piece string) {
	if !r.took(piece) {
		panic(fault{api.ErrText})
	}
}

// escape tells the sign of the escape with which s begins, and how many bytes that has.
func escape(s string) (sign rune, length int) {
	const short = 2
	if len(s) < short {
		panic(fault{api.ErrText})
	}
	if s[1] == 'u' {
		return unit(s)
	}
	i := strings.IndexByte(letters+"/", s[1])
	if i < 0 {
		panic(fault{api.ErrText})
	}
	return rune((signs + "/")[i]), short
}

// The surrogates: the high ones, then as many low ones, then no more.
const (
	firstHigh = 0xD800
	firstLow  = 0xDC00
	behindLow = 0xE000
	firstPair = 0x10000 // the sign of the first pair
)

// unit tells the sign of the escape in hexadecimal figures with which s begins, of two, if they are a pair of surrogates, and how many bytes that has.
func unit(s string) (sign rune, length int) {
	const long = 6
	first := hexadecimal(s)
	if first < firstHigh || first >= behindLow {
		return first, long
	}
	if first >= firstLow {
		panic(fault{api.ErrText})
	}
	second := hexadecimal(s[long:])
	if second < firstLow || second >= behindLow {
		panic(fault{api.ErrText})
	}
	return firstPair + (first-firstHigh)<<10 + (second - firstLow), 2 * long
}

// hexadecimal tells the number of the escape in hexadecimal figures with which s must begin.
func hexadecimal(s string) rune {
	figures, ok := strings.CutPrefix(s, `\u`)
	if !ok || len(figures) < 4 {
		panic(fault{api.ErrText})
	}
	n, err := strconv.ParseUint(figures[:4], 16, 16)
	if err != nil {
		panic(fault{api.ErrText})
	}
	return rune(n)
}
