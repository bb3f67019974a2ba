package stem_test

import (
	"math/rand"
	"regexp"
	"slices"
	"strings"
	"testing"

	"waywiser/stem"
)

// The chapter's lists of ends; "to nothing" stands where there is no other end.
const (
	ends1a = "sses to ss, ies to i, ss to ss, s to nothing"
	ends2  = "ational to ate, tional to tion, enci to ence, anci to ance, izer to ize, abli to able, alli to al, entli to ent, eli to e, ousli to ous, ization to ize, ation to ate, ator to ate, alism to al, iveness to ive, fulness to ful, ousness to ous, aliti to al, iviti to ive, biliti to ble"
	ends3  = "icate to ic, ative to nothing, alize to al, iciti to ic, ical to ic, ful to nothing, ness to nothing"
	ends4  = "al, ance, ence, er, ic, able, ible, ant, ement, ment, ent, ion, ou, ism, ate, iti, ous, ive, ize"
)

// kinds tells of letters which are vowels, v, and which are not, c.
func kinds(letters string) string {
	vowel := regexp.MustCompile("[aeiou]")
	behind := regexp.MustCompile("(^|[^v])y") // no y before it is known what the letter ahead is
	s := []byte(letters)
	for i, c := range s {
		switch {
		case vowel.Match([]byte{c}):
			s[i] = 'v'
		case c != 'y':
			s[i] = 'c'
		case behind.Match(s[max(i-1, 0):i+1]) && i > 0:
			s[i] = 'v'
		default:
			s[i] = 'c'
		}
	}
	return string(s)
}

func measure(letters string) int { return strings.Count(kinds(letters), "vc") }

func hasVowel(letters string) bool { return strings.Contains(kinds(letters), "v") }

func isCvc(letters string) bool {
	return strings.HasSuffix(kinds(letters), "cvc") && !strings.ContainsAny(letters[len(letters)-1:], "wxy")
}

// plain is a stem by the chapter's words, found in the plainest way.
type plain struct{ word string }

// replace does a step of which the longest end counts; it tells that end, and whether it became another one.
func (p *plain) replace(list string, asks func(end, ahead string) bool) (string, bool) {
	ends := map[string]string{}
	var longest []string
	for part := range strings.SplitSeq(list, ", ") {
		from, to, _ := strings.Cut(part, " to ")
		ends[from] = strings.ReplaceAll(to, "nothing", "")
		longest = append(longest, from)
	}
	slices.SortStableFunc(longest, func(a, b string) int { return len(b) - len(a) })
	for _, from := range longest {
		if ahead, is := strings.CutSuffix(p.word, from); is {
			if !asks(from, ahead) {
				return from, false
			}
			p.word = ahead + ends[from]
			return from, true
		}
	}
	return "", false
}

func (p *plain) step1() {
	p.replace(ends1a, func(end, ahead string) bool { return true })
	end, is := p.replace("eed to ee, ed to nothing, ing to nothing", func(end, ahead string) bool {
		return end == "eed" && measure(ahead) > 0 || end != "eed" && hasVowel(ahead)
	})
	if is && end != "eed" {
		w := p.word
		two := len(w) > 1 && w[len(w)-1] == w[len(w)-2] && strings.HasSuffix(kinds(w), "c")
		switch {
		case regexp.MustCompile("(at|bl|iz)$").MatchString(w):
			p.word += "e"
		case two && !regexp.MustCompile("[lsz]$").MatchString(w):
			p.word = w[:len(w)-1]
		case measure(w) == 1 && isCvc(w):
			p.word += "e"
		}
	}
	p.replace("y to i", func(end, ahead string) bool { return hasVowel(ahead) })
}

func (p *plain) step5() {
	p.replace("e to nothing", func(end, ahead string) bool {
		return measure(ahead) > 1 || measure(ahead) == 1 && !isCvc(ahead)
	})
	if measure(p.word) > 1 && strings.HasSuffix(p.word, "ll") {
		p.word = strings.TrimSuffix(p.word, "l")
	}
}

func plainStem(word string) string {
	if !regexp.MustCompile("^[a-z]{3,}$").MatchString(word) {
		return word
	}
	p := &plain{word}
	p.step1()
	for _, list := range []string{ends2, ends3} {
		p.replace(list, func(end, ahead string) bool { return measure(ahead) > 0 })
	}
	p.replace(strings.ReplaceAll(ends4, ",", " to nothing,")+" to nothing", func(end, ahead string) bool {
		return measure(ahead) > 1 && (end != "ion" || regexp.MustCompile("[st]$").MatchString(ahead))
	})
	p.step5()
	return p.word
}

// look holds a word's stem against the plain one, and against what follows of the promises.
func look(t *testing.T, word string) {
	t.Helper()
	got := stem.Stem(word)
	if want := plainStem(word); got != want {
		t.Fatalf("Stem(%q): %q, not %q", word, got, want)
	}
	if word != "" && (got == "" || len(got) > len(word) || got[0] != word[0]) {
		t.Fatalf("Stem(%q): %q", word, got)
	}
}

// TestExamples are the chapter's.
func TestExamples(t *testing.T) { // P16.1
	for word, want := range map[string]string{"caresses": "caress", "ponies": "poni", "hopping": "hop", "filing": "file", "relational": "relat", "generalizations": "gener", "happy": "happi"} {
		if got := stem.Stem(word); got != want {
			t.Errorf("Stem(%q): %q, not %q", word, got, want)
		}
	}
	for letters, want := range map[string]int{"trouble": 1, "oaten": 2} {
		if got := stem.Measure(letters); got != want {
			t.Errorf("Measure(%q): %d, not %d", letters, got, want)
		}
	}
}

// TestKnown are words whose stems are known, each step's among them.
func TestKnown(t *testing.T) { // P16.1
	const known = `ties ti, caress caress, cats cat, gas ga, this thi, bus bu, sss sss, ies i,
		feed feed, agreed agre, plastered plaster, bled bled, motoring motor, sing sing, seed seed, freed freed, need need,
		conflated conflat, troubled troubl, sized size, tanned tan, falling fall, hissing hiss, fizzed fizz, failing fail,
		bing bing, rating rate, added ad, egged eg, inning in, being be, bowed bow, boxed box, playing plai, aed a,
		sky sky, cry cry, dying dy, enjoy enjoi, say sai, eying ei, yyy yyi, syzygy syzygi,
		conditional condit, rational ration, valenci valenc, hesitanci hesit, digitizer digit, conformabli conform,
		radicalli radic, differentli differ, vileli vile, analogousli analog, vietnamization vietnam, predication predic,
		operator oper, feudalism feudal, decisiveness decis, hopefulness hope, callousness callous, formaliti formal,
		sensitiviti sensit, sensibiliti sensibl, nation nation, station station, enci enci, abli abli, eli eli,
		triplicate triplic, formative form, formalize formal, electriciti electr, electrical electr, hopeful hope,
		goodness good, native nativ, ness ness,
		revival reviv, allowance allow, inference infer, airliner airlin, gyroscopic gyroscop, adjustable adjust,
		defensible defens, irritant irrit, replacement replac, adjustment adjust, dependent depend, adoption adopt,
		homologou homolog, communism commun, activate activ, angulariti angular, homologous homolog, effective effect,
		bowdlerize bowdler, element element, cement cement, million million, companion companion, religion religion,
		probate probat, rate rate, cease ceas, controll control, roll roll, parallel parallel, the the, tree tree,
		universities univers, university univers, ships ship, towns town, oscillators oscil`
	for part := range strings.SplitSeq(known, ",") {
		pair := strings.Fields(part)
		if got := stem.Stem(pair[0]); got != pair[1] {
			t.Errorf("Stem(%q): %q, not %q", pair[0], got, pair[1])
		}
		look(t, pair[0])
	}
}

// TestNoStem: of what no stem may be taken, the word itself is told.
func TestNoStem(t *testing.T) { // P16.1
	for _, word := range []string{"", "s", "as", "is", "ed", "ee", "ll", "\x00", "Ponies", "PONIES", "ponieS", "4ing", "hopping2", "hop ping", " hopping", "hopping ", "hop-ping", "caress's",
		"h\u00f6pping", "hopp\u00eeng", "\u65e5\u672cing", "hopping\xff", "\xffhopping", "hopp\x00ing", "`hopping", "{hopping", "\u00fcs", "\u00fcss", "sses\u0301", "\u212Aing"} {
		if got := stem.Stem(word); got != word {
			t.Errorf("Stem(%q): %q", word, got)
		}
		look(t, word)
	}
}

func TestMeasure(t *testing.T) { // P16.1
	for letters, want := range map[string]int{
		"": 0, "tr": 0, "ee": 0, "tree": 0, "y": 0, "by": 0, "troubles": 2, "oats": 1, "trees": 1, "ivy": 1, "private": 2, "orrery": 2,
		"yy": 0, "yyy": 1, "yyyyyyy": 3, "ay": 1, "aya": 1, "toy": 1, "syzygy": 2, "yt": 0, "yet": 1, "ayb": 1, "ayyb": 2,
		"a ": 1, "a1": 1, "1a": 0, "aB": 1, "A": 0, "AB": 0, "EB": 0, "a\u00e9": 1, "\u00e9b": 0, "\u00e9y": 0, "\u00e9yb": 1, " yb": 1, "1yb": 1, "Yb": 0, "aY": 1,
		"a\xff": 1, "\xffyb": 1, "\xff\xfeyb": 1, "a\x00a\x00": 2, "a\u65e5\u672ca": 1, "a\U0010ffffa\U0010ffff": 2,
	} {
		if got := stem.Measure(letters); got != want {
			t.Errorf("Measure(%q): %d, not %d", letters, got, want)
		}
	}
}

// TestShortWords holds all short words of a few letters against the chapter.
func TestShortWords(t *testing.T) { // P16.1, P16.2
	var all func(word, letters string, left int)
	all = func(word, letters string, left int) {
		look(t, word)
		if got, want := stem.Measure(word), measure(word); got != want {
			t.Fatalf("Measure(%q): %d, not %d", word, got, want)
		}
		for i := 0; left > 0 && i < len(letters); i++ {
			all(word+letters[i:i+1], letters, left-1)
		}
	}
	all("", "esyling", 5)
	all("", "aedyt", 6)
	all("", "abcdefghijklmnopqrstuvwxyz", 3)
}

// anyWord is one by chance: letters, and often ends behind one another.
func anyWord(r *rand.Rand) string {
	var b strings.Builder
	for range r.Intn(7) {
		b.WriteByte("aeiouybcdglrstwxyzll"[r.Intn(20)])
	}
	every := ends1a + ", " + ends2 + ", " + ends3 + ", " + ends4 + ", eed, ed, ing, y, e, ll, at, bl, iz, ss, zz, tt"
	ends := strings.Fields(strings.NewReplacer(",", " ", " to ", " ", "nothing", " ").Replace(every))
	for range r.Intn(4) {
		b.WriteString(ends[r.Intn(len(ends))])
	}
	return b.String()
}

func TestWordsByChance(t *testing.T) { // P16.1, P16.2
	r := rand.New(rand.NewSource(1))
	for range 30000 {
		word := anyWord(r)
		look(t, word)
		if got, want := stem.Measure(word), measure(word); got != want {
			t.Fatalf("Measure(%q): %d, not %d", word, got, want)
		}
	}
}

// TestEveryEnd puts each end behind letters of all measures.
func TestEveryEnd(t *testing.T) { // P16.1
	every := ends1a + ", " + ends2 + ", " + ends3 + ", " + ends4 + ", eed, ed, ing, y, e, ll"
	for part := range strings.SplitSeq(every, ", ") {
		end, _, _ := strings.Cut(part, " to ")
		for _, ahead := range []string{"", "b", "t", "s", "l", "y", "a", "tr", "by", "ab", "at", "as", "al", "hop", "how", "box", "toy", "all", "iz", "abbl", "abat", "abas", "abab", "ababab", "yyy", "byy"} {
			look(t, ahead+end)
			look(t, ahead+end+"s")
			look(t, ahead+end+"ed")
			look(t, ahead+end+"ing")
		}
	}
}

// TestLongWords: a word may be long.
func TestLongWords(t *testing.T) { // P16.1
	const many = 1 << 20
	for _, letter := range []string{"y", "s", "e", "ab", "ing", "l"} {
		word := strings.Repeat(letter, many)
		if got := stem.Stem(word); len(got) > len(word) || len(got) < len(word)-5 || got != word[:len(got)-1]+got[len(got)-1:] {
			t.Errorf("%q, so often: %d letters are left of %d", letter, len(got), len(word))
		}
	}
	if got := stem.Measure(strings.Repeat("ab", many)); got != many {
		t.Errorf("Measure: %d", got)
	}
}
