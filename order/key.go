package order

import (
	"bytes"
	"slices"

	"waywiser/api"
	"waywiser/json"
)

// maxKey is how many bytes a key may have that is read.
const maxKey = 1 << 17

const maxByte = 255

// What stands behind a 0 in a text's key tells whether the text ends there. Its end is less than all with which it could go on.
const (
	textEnds = 1
	textGoes = maxByte
)

// A number's key has its bytes with the sign's bit turned, so that those below 0 are ahead.
const (
	numberBytes = 8
	signBit     = 1 << 63
)

// Key tells a value's key.
func Key(v any) ([]byte, api.Errno) {
	if e := json.May(v); e != api.OK {
		return nil, e
	}
	return appendKey(nil, v), api.OK
}

// Unkey tells a key's value. A key's form leaves open whether numbers are within their ends, texts UTF-8, names there just once: that May tells.
func Unkey(b []byte) (any, api.Errno) {
	if len(b) > maxKey {
		return nil, api.ErrLong
	}
	r := &reader{rest: b}
	v, ok := r.value()
	if !ok || len(r.rest) > 0 || json.May(v) != api.OK {
		return nil, api.ErrForm
	}
	return v, api.OK
}

// Prefix tells the least bytes that are above all that begin with b; none, if there are no such.
func Prefix(b []byte) []byte {
	n := len(b)
	for n > 0 && b[n-1] == maxByte {
		n--
	}
	if n == 0 {
		return nil
	}
	out := slices.Clone(b[:n])
	out[n-1]++
	return out
}

// appendKey adds the key of a value that may be.
func appendKey(b []byte, v any) []byte {
	b = append(b, kind(v))
	switch x := v.(type) {
	case json.Num:
		return appendNumber(b, x)
	case string:
		return appendText(b, x)
	case json.List:
		for _, item := range x {
			b = appendKey(b, item)
		}
		return append(b, end)
	case json.Object:
		for _, m := range x {
			b = appendKey(b, m.Name)
			b = appendKey(b, m.Value)
		}
		return append(b, end)
	}
	return b // of the other kinds the first byte tells all
}

func appendNumber(b []byte, n json.Num) []byte {
	turned := uint64(n) ^ signBit
	for i := range numberBytes {
		b = append(b, byte(turned>>(8*(numberBytes-1-i))))
	}
	return b
}

func appendText(b []byte, s string) []byte {
	for i := range len(s) {
		b = append(b, s[i])
		if s[i] == 0 {
			b = append(b, textGoes)
		}
	}
	return append(b, 0, textEnds)
}

// reader goes through a key; rest is what was not read yet.
type reader struct {
	rest  []byte
	depth int // in how many lists and objects it is
}

// value reads a value; false, if none is there.
func (r *reader) value() (any, bool) {
	switch {
	case r.took(null):
		return nil, true
	case r.took(no):
		return false, true
	case r.took(yes):
		return true, true
	case r.took(number):
		return r.number()
	case r.took(text):
		return r.text()
	case r.took(list):
		return r.list()
	case r.took(object):
		return r.object()
	}
	return nil, false
}

// number reads one behind its first byte.
func (r *reader) number() (json.Num, bool) {
	if len(r.rest) < numberBytes {
		return 0, false
	}
	turned := uint64(0)
	for _, c := range r.rest[:numberBytes] {
		turned = turned<<8 | uint64(c)
	}
	r.rest = r.rest[numberBytes:]
	return json.Num(turned ^ signBit), true
}

// text reads one behind its first byte.
func (r *reader) text() (string, bool) {
	var out []byte
	for {
		piece, rest, zero := bytes.Cut(r.rest, []byte{0})
		if !zero {
			return "", false
		}
		out = append(out, piece...)
		r.rest = rest
		switch {
		case r.took(textEnds):
			return string(out), true
		case r.took(textGoes):
			out = append(out, 0)
		default:
			return "", false
		}
	}
}

// list reads one behind its first byte.
func (r *reader) list() (json.List, bool) {
	l := json.List{}
	whole := r.row(func() bool {
		item, ok := r.value()
		l = append(l, item)
		return ok
	})
	return l, whole
}

// object reads one behind its first byte.
func (r *reader) object() (json.Object, bool) {
	o := json.Object{}
	whole := r.row(func() bool {
		if !r.took(text) {
			return false
		}
		name, named := r.text()
		if !named {
			return false
		}
		v, ok := r.value()
		o = append(o, json.Member{Name: name, Value: v})
		return ok
	})
	return o, whole
}

// row reads parts, each by a call of part, up to a row's end; false, if one is none, or it is too deep.
func (r *reader) row(part func() bool) bool {
	if r.depth == api.MaxDepth {
		return false
	}
	r.depth++
	for !r.took(end) {
		if !part() {
			return false
		}
	}
	r.depth--
	return true
}

// took reads a byte, if it comes now.
func (r *reader) took(c byte) bool {
	if len(r.rest) == 0 || r.rest[0] != c {
		return false
	}
	r.rest = r.rest[1:]
	return true
}
