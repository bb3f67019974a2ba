package json

import (
	"strconv"
	"strings"
	"unicode/utf8"

	"waywiser/api"
	"waywiser/num"
)

// The signs that have a short escape, and the letters of these, one for one.
const (
	signs   = "\"\\\b\t\n\f\r"
	letters = `"\btnfr`
)

const hexFigures = "0123456789abcdef"

// Print tells a value's plain text.
func Print(v any) ([]byte, api.Errno) {
	if e := May(v); e != api.OK {
		return nil, e
	}
	return appendValue(nil, v), api.OK
}

// appendValue adds the plain text of a value that may be.
func appendValue(b []byte, v any) []byte {
	switch x := v.(type) {
	case bool:
		return strconv.AppendBool(b, x)
	case Num:
		s, _ := num.Print(int64(x))
		return append(b, s...)
	case string:
		return appendText(b, x)
	case List:
		return appendList(b, x)
	case Object:
		return appendObject(b, x)
	}
	return append(b, "null"...)
}

func appendList(b []byte, l List) []byte {
	b = append(b, '[')
	for i, item := range l {
		if i > 0 {
			b = append(b, ',')
		}
		b = appendValue(b, item)
	}
	return append(b, ']')
}

func appendObject(b []byte, o Object) []byte {
	b = append(b, '{')
	for i, m := range o {
		if i > 0 {
			b = append(b, ',')
		}
		b = appendText(b, m.Name)
		b = append(b, ':')
		b = appendValue(b, m.Value)
	}
	return append(b, '}')
}

func appendText(b []byte, s string) []byte {
	b = append(b, '"')
	for _, c := range s {
		i := strings.IndexRune(signs, c)
		switch {
		case i >= 0:
			b = append(b, '\\', letters[i])
		case c < ' ':
			b = append(b, '\\', 'u', '0', '0', hexFigures[c>>4], hexFigures[c&15])
		default:
			b = utf8.AppendRune(b, c)
		}
	}
	return append(b, '"')
}
