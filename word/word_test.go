package word_test

import (
	"fmt"
	"math"
	"math/rand"
	"slices"
	"strings"
	"testing"
	"unicode/utf8"

	"waywiser/word"
)

// chapter is what the chapter says that signs become, beside a to z and figures; what is not there becomes nothing below 180.
const chapter = "AA: a; B5: u; BA: o; C0 to C5: a; C6: ae; C7: c; C8 to CB: e; CC to CF: i; D0: d; D1: n; D2 to D6, D8: o; D9 to DC: u; DD: y; DE: th; DF: ss; FF: y; 100 to 105: a; 106 to 10D: c; 10E to 111: d; 112 to 11B: e; 11C to 123: g; 124 to 127: h; 128 to 131: i; 132, 133: ij; 134, 135: j; 136 to 138: k; 139 to 142: l; 143 to 149: n; 14A, 14B: ng; 14C to 151: o; 152, 153: oe; 154 to 159: r; 15A to 161: s; 162 to 167: t; 168 to 173: u; 174, 175: w; 176 to 178: y; 179 to 17E: z; 17F: s"

// told reads the chapter's words.
func told(t *testing.T) map[rune]string {
	t.Helper()
	m := map[rune]string{}
	for part := range strings.SplitSeq(chapter, "; ") {
		signs, text, _ := strings.Cut(part, ": ")
		for piece := range strings.SplitSeq(signs, ", ") {
			var first, last rune
			if n, _ := fmt.Sscanf(piece, "%X to %X", &first, &last); n == 1 {
				last = first
			} else if n != 2 {
				t.Fatalf("%q", piece)
			}
			for c := first; c <= last; c++ {
				m[c] = text
			}
		}
	}
	for c := 'a'; c <= 'z'; c++ {
		m[c], m[c-'a'+'A'] = string(c), string(c)
	}
	for c := '0'; c <= '9'; c++ {
		m[c] = string(c)
	}
	for c := rune(0xE0); c <= 0xFE; c++ {
		m[c] = m[c-0x20]
	}
	return m
}

// plain is what a sign becomes, by the chapter's words.
func plain(m map[rune]string, c rune) string {
	switch {
	case c < 0x180:
		return m[c]
	case c >= 0x2000 && c <= 0x206F, c >= 0x3000 && c <= 0x303F, c == 0xFFFD, c >= 0xD800 && c <= 0xDFFF, c > 0x10FFFF:
		return ""
	}
	return string(c)
}

func TestFold(t *testing.T) { // P14.1
	m := told(t)
	for c := rune(-3); c <= 0x110010; c++ {
		if got := word.Fold(c); got != plain(m, c) {
			t.Fatalf("Fold(%X): %q, not %q", c, got, plain(m, c))
		}
	}
	for _, c := range []rune{math.MinInt32, -0x41, math.MaxInt32, 0x41 + 1<<30, 0x200000} {
		if got := word.Fold(c); got != "" {
			t.Errorf("Fold(%X): %q", c, got)
		}
	}
	for c, wants := range map[rune]string{0xD7: "", 0xF7: "", 0xFE: "th", 0xE6: "ae", 0xF8: "o", 0x17F: "s", 0x180: "\u0180", 0x1FFF: "\u1fff", 0x2070: "\u2070", 0x2FFF: "\u2fff", 0x3040: "\u3040", 0xFFFC: "\ufffc", 0xFFFE: "\ufffe", 0x10FFFF: "\U0010ffff", '_': "", '@': "", '`': "", '/': "", ':': ""} {
		if got := word.Fold(c); got != wants {
			t.Errorf("Fold(%X): %q, not %q", c, got, wants)
		}
	}
}

func TestStop(t *testing.T) { // P14.1
	const stops = "a, an, and, are, as, at, be, but, by, for, if, in, into, is, it, no, not, of, on, or, such, that, the, their, then, there, these, they, this, to, was, will, with"
	for s := range strings.SplitSeq(stops, ", ") {
		if !word.Stop(s) {
			t.Errorf("%q is no stop word", s)
		}
		for _, other := range []string{strings.ToUpper(s), s + " ", " " + s, s + "q", s + "\x00"} {
			if word.Stop(other) {
				t.Errorf("%q is a stop word", other)
			}
		}
	}
	for _, s := range []string{"", "ship", "th", "i", "we", "from", "has", "The", "wit", "\xff"} {
		if word.Stop(s) {
			t.Errorf("%q is a stop word", s)
		}
	}
}

func wantWords(t *testing.T, text string, words ...word.Word) {
	t.Helper()
	if got := word.Words(text); !slices.Equal(got, words) {
		t.Errorf("Words(%q): %+v, not %+v", text, got, words)
	}
}

func TestWords(t *testing.T) { // P14.2
	for _, text := range []string{"", " ", "...", "\xff\xc3", "\u2003\u3000×÷", "\ufffd"} {
		wantWords(t, text)
	}
	wantWords(t, "a", word.Word{Text: "a", From: 0, To: 1})
	wantWords(t, "The OLD harbour's 2nd", word.Word{Text: "the", From: 0, To: 3}, word.Word{Text: "old", From: 4, To: 7}, word.Word{Text: "harbour", From: 8, To: 15}, word.Word{Text: "s", From: 16, To: 17}, word.Word{Text: "2nd", From: 18, To: 21})
	wantWords(t, "--Æther\xffŒ\xe2\x82x", word.Word{Text: "aether", From: 2, To: 8}, word.Word{Text: "oe", From: 9, To: 11}, word.Word{Text: "x", From: 13, To: 14})
	wantWords(t, "日本 語、漢𝔘", word.Word{Text: "日本", From: 0, To: 6}, word.Word{Text: "語", From: 7, To: 10}, word.Word{Text: "漢𝔘", From: 13, To: 20})
	wantWords(t, "a\x00b\u0301c\xed\xa0\x80d", word.Word{Text: "a", From: 0, To: 1}, word.Word{Text: "b\u0301c", From: 2, To: 6}, word.Word{Text: "d", From: 9, To: 10})
	wantWords(t, "a b\xc3", word.Word{Text: "a", From: 0, To: 1}, word.Word{Text: "b", From: 2, To: 3})
}

// TestLongWords: a word's text is cut ahead of the first sign that has no room, also if one behind it would have; its end is where it was.
func TestLongWords(t *testing.T) { // P14.2
	a := strings.Repeat("a", 40)
	wantWords(t, a[:32], word.Word{Text: a[:32], From: 0, To: 32})
	wantWords(t, a[:33]+" b", word.Word{Text: a[:32], From: 0, To: 33}, word.Word{Text: "b", From: 34, To: 35})
	wantWords(t, a[:31]+"ßaß "+a, word.Word{Text: a[:31], From: 0, To: 36}, word.Word{Text: a[:32], From: 37, To: 77})
	wantWords(t, a[:30]+"ßa", word.Word{Text: a[:30] + "ss", From: 0, To: 33})
	wantWords(t, a[:30]+"日a本", word.Word{Text: a[:30], From: 0, To: 37})
	wantWords(t, strings.Repeat("𝔘", 9), word.Word{Text: strings.Repeat("𝔘", 8), From: 0, To: 36})
}

// piece is a text by chance.
func piece(r *rand.Rand) string {
	signs := []string{"a", "Z", "7", "ß", "Æ", "日", "𝔘", "\u0301", "É", "abcdefghij"}
	if r.Intn(3) == 0 {
		signs = append(signs, " ", ".", "\xff", "\u2010", "×", "\xe2\x82", "", "\x00")
	}
	var b strings.Builder
	for range r.Intn(30) {
		b.WriteString(signs[r.Intn(len(signs))])
	}
	return b.String()
}

// cut tells a text's words in another way: piece by piece between signs that become nothing.
func cut(text string) []word.Word {
	var l []word.Word
	for from := 0; from < len(text); {
		to := from
		var signs []string
		for to < len(text) {
			c, n := utf8.DecodeRuneInString(text[to:])
			if word.Fold(c) == "" {
				break
			}
			signs = append(signs, word.Fold(c))
			to += n
		}
		if to == from {
			_, n := utf8.DecodeRuneInString(text[from:])
			from += n
			continue
		}
		for len(strings.Join(signs, "")) > 32 {
			signs = signs[:len(signs)-1]
		}
		l = append(l, word.Word{Text: strings.Join(signs, ""), From: from, To: to})
		from = to
	}
	return l
}

func texts(words []word.Word) []string {
	var l []string
	for _, w := range words {
		l = append(l, w.Text)
	}
	return l
}

func TestWhatFollows(t *testing.T) { // P14.2, P14.3
	r := rand.New(rand.NewSource(1))
	between := []string{" ", "\xff", ", ", "\u3001", "\ufffd", "÷", "\n\n", "_"}
	for range 5000 {
		first, second := piece(r), piece(r)
		wantWords(t, first, cut(first)...)
		for _, w := range word.Words(first) {
			if l := texts(word.Words(w.Text)); !slices.Equal(l, []string{w.Text}) {
				t.Fatalf("words of the word %q: %q", w.Text, l)
			}
			if l := texts(word.Words(first[w.From:w.To])); !slices.Equal(l, []string{w.Text}) {
				t.Fatalf("words where %q stands: %q", w.Text, l)
			}
		}
		both := texts(word.Words(first + between[r.Intn(len(between))] + second))
		if !slices.Equal(both, slices.Concat(texts(word.Words(first)), texts(word.Words(second)))) {
			t.Fatalf("%q and %q: %q", first, second, both)
		}
	}
}

func TestManyWords(t *testing.T) { // R1
	if l := word.Words(strings.Repeat("ab ", 1<<19)); len(l) != 1<<19 || l[1<<19-1] != (word.Word{Text: "ab", From: 3<<19 - 3, To: 3<<19 - 1}) {
		t.Errorf("%d words", len(l))
	}
	if l := word.Words(strings.Repeat("é", 1<<20)); len(l) != 1 || l[0] != (word.Word{Text: strings.Repeat("e", 32), From: 0, To: 2 << 20}) {
		t.Errorf("%d words", len(l))
	}
}

// TestExamples are the chapter's.
func TestExamples(t *testing.T) {
	wantWords(t, "Über-Größe 42", word.Word{Text: "uber", From: 0, To: 5}, word.Word{Text: "grosse", From: 6, To: 13}, word.Word{Text: "42", From: 14, To: 16})
	if got := word.Fold('Æ'); got != "ae" {
		t.Errorf("Fold('Æ'): %q", got)
	}
	if l := word.Words("日本"); len(l) != 1 {
		t.Errorf("%+v", l)
	}
}
