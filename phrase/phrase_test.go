package phrase_test

import (
	"math/rand"
	"slices"
	"strings"
	"testing"

	"waywiser/api"
	"waywiser/index"
	"waywiser/phrase"
	"waywiser/stem"
	"waywiser/word"
)

// in: does a phrase stand in a text?
func in(t *testing.T, f phrase.Phrase, text string) bool {
	t.Helper()
	terms, length := index.Terms(text)
	stands, e := f.Stands(func(i int) (phrase.Places, api.Errno) {
		for _, x := range terms {
			if x.Text == f[i].Text {
				return phrase.Places{At: x.At, Length: length}, api.OK
			}
		}
		return phrase.Places{}, api.OK
	})
	if e != api.OK {
		t.Fatal("Stands", e)
	}
	return stands
}

func TestOf(t *testing.T) {
	f := phrase.Of("The ships of the line, ships")
	if terms := f.Terms(); !slices.Equal(terms, []string{"ship", "line"}) || !slices.Equal(f[0].At, []int{1, 5}) || !slices.Equal(f[1].At, []int{4}) {
		t.Errorf("Of: %v", f)
	}
	if len(phrase.Of("of the")) != 0 || len(phrase.Of("")) != 0 {
		t.Error("stop words are a phrase")
	}
}

func TestStands(t *testing.T) {
	for _, c := range []struct {
		phrase, text string
		wants        bool
	}{
		{"ship", "a ship", true},
		{"ship", "", false},
		{"ship", "boat", false},
		{"ship of the line", "the ships in a line", true},
		{"ship of the line", "ship of line", false},
		{"of the ship", "ship", true},
		{"ship ship", "ship", false},
		{"ship ship", "ship the ship ship", true},
		{"b a b", "b the b", true},
		{"x y x", "x y y x y x", true},
		{"x y x", "x y y x x y", false},
	} {
		if got := in(t, phrase.Of(c.phrase), c.text); got != c.wants {
			t.Errorf("%q in %q: %v", c.phrase, c.text, got)
		}
	}
}

func TestStandsEndsAtFirstError(t *testing.T) {
	asked := 0
	stands, e := phrase.Of("ship line").Stands(func(int) (phrase.Places, api.Errno) {
		asked++
		return phrase.Places{}, api.ErrDown
	})
	if stands || e != api.ErrDown || asked != 1 {
		t.Errorf("%v, %d, asked %d times", stands, e, asked)
	}
}

// TestStandsInLongTexts holds phrases by chance, also long ones, against every place tried one by one.
func TestStandsInLongTexts(t *testing.T) {
	r := rand.New(rand.NewSource(1))
	words := func(most int) string {
		var l []string
		for range 1 + r.Intn(most) {
			l = append(l, []string{"x", "x", "x", "y", "the"}[r.Intn(2+r.Intn(4))])
		}
		return strings.Join(l, " ")
	}
	stood := 0
	for range 4000 {
		text, said := words(300), words([]int{3, 8, 100}[r.Intn(3)])
		f := phrase.Of(said)
		if len(f) == 0 {
			continue
		}
		wants := tried(stems(text), stems(said))
		if in(t, f, text) != wants {
			t.Fatalf("%q in %q: not %v", said, text, wants)
		}
		if wants {
			stood++
		}
	}
	if stood < 100 {
		t.Errorf("only %d phrases stood", stood)
	}
}

// stems are a text's words, each as its stem, stop words as none.
func stems(text string) []string {
	var l []string
	for _, w := range word.Words(text) {
		if word.Stop(w.Text) {
			l = append(l, "")
		} else {
			l = append(l, stem.Stem(w.Text))
		}
	}
	return l
}

// tried: does a phrase stand anywhere?
func tried(text, said []string) bool {
	for n := -len(said); n < len(text); n++ {
		stands := true
		for i, w := range said {
			stands = stands && (w == "" || n+i >= 0 && n+i < len(text) && text[n+i] == w)
		}
		if stands {
			return true
		}
	}
	return false
}
