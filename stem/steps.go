package stem

import "strings"

// end is how a word may end, what becomes of that, and what is asked of the letters ahead.
type end struct {
	from, to string
	asks     func(ahead string) bool
}

// turned is a word of whose ends the longest one that it ends in has become what it becomes, if the letters ahead are as it asks: are they?
func turned(word string, ends []end) (string, bool) {
	var longest end
	for _, x := range ends {
		if len(x.from) > len(longest.from) && strings.HasSuffix(word, x.from) {
			longest = x
		}
	}
	ahead := strings.TrimSuffix(word, longest.from)
	if longest.from == "" || !longest.asks(ahead) {
		return word, false
	}
	return ahead + longest.to, true
}

// always asks for nothing.
func always(string) bool { return true }

// above asks for a measure above another one.
func above(measure int) func(ahead string) bool {
	return func(ahead string) bool { return Measure(ahead) > measure }
}

// steps are those of the chapter, one behind the other.
func steps() [8]func(word string) string {
	return [...]func(word string) string{step1a, step1b, step1c, step2, step3, step4, step5a, step5b}
}

// step1a takes the end of many things away.
func step1a(word string) string {
	ends := [...]end{{"sses", "ss", always}, {"ies", "i", always}, {"ss", "ss", always}, {"s", "", always}}
	word, _ = turned(word, ends[:])
	return word
}

// step1b takes the ends of what was done, or is being done, away.
func step1b(word string) string {
	ends := [...]end{{"eed", "ee", above(0)}, {"ed", "", hasVowel}, {"ing", "", hasVowel}}
	short, is := turned(word, ends[:])
	if !is || strings.HasSuffix(word, "eed") {
		return short
	}
	return mended(short)
}

// mended is a word as it was ahead of the end that step 1b took away.
func mended(word string) string {
	switch {
	case endsInAny(word, "at", "bl", "iz"):
		return word + "e"
	case endsAlike(word):
		if endsInAny(word, "l", "s", "z") {
			return word
		}
		return word[:len(word)-1]
	case Measure(word) == 1 && endsInCvc(word):
		return word + "e"
	}
	return word
}

// step1c makes one letter of two that sound alike.
func step1c(word string) string {
	ends := [...]end{{"y", "i", hasVowel}}
	word, _ = turned(word, ends[:])
	return word
}

// step2 makes one end of two.
func step2(word string) string {
	some := above(0)
	ends := [...]end{
		{"ational", "ate", some}, {"tional", "tion", some}, {"enci", "ence", some}, {"anci", "ance", some}, {"izer", "ize", some},
		{"abli", "able", some}, {"alli", "al", some}, {"entli", "ent", some}, {"eli", "e", some}, {"ousli", "ous", some},
		{"ization", "ize", some}, {"ation", "ate", some}, {"ator", "ate", some}, {"alism", "al", some}, {"iveness", "ive", some},
		{"fulness", "ful", some}, {"ousness", "ous", some}, {"aliti", "al", some}, {"iviti", "ive", some}, {"biliti", "ble", some},
	}
	word, _ = turned(word, ends[:])
	return word
}

// step3 does so with what is left.
func step3(word string) string {
	some := above(0)
	ends := [...]end{
		{"icate", "ic", some}, {"ative", "", some}, {"alize", "al", some}, {"iciti", "ic", some}, {"ical", "ic", some},
		{"ful", "", some}, {"ness", "", some},
	}
	word, _ = turned(word, ends[:])
	return word
}

// step4 takes single ends away.
func step4(word string) string {
	many := above(1)
	behind := func(ahead string) bool { return many(ahead) && endsInAny(ahead, "s", "t") }
	ends := [...]end{
		{"al", "", many}, {"ance", "", many}, {"ence", "", many}, {"er", "", many}, {"ic", "", many},
		{"able", "", many}, {"ible", "", many}, {"ant", "", many}, {"ement", "", many}, {"ment", "", many},
		{"ent", "", many}, {"ion", "", behind}, {"ou", "", many}, {"ism", "", many}, {"ate", "", many},
		{"iti", "", many}, {"ous", "", many}, {"ive", "", many}, {"ize", "", many},
	}
	word, _ = turned(word, ends[:])
	return word
}

// step5a takes a last e away.
func step5a(word string) string {
	asks := func(ahead string) bool {
		measure := Measure(ahead)
		return measure > 1 || measure == 1 && !endsInCvc(ahead)
	}
	ends := [...]end{{"e", "", asks}}
	word, _ = turned(word, ends[:])
	return word
}

// step5b makes one l of two.
func step5b(word string) string {
	if Measure(word) > 1 && strings.HasSuffix(word, "ll") {
		return word[:len(word)-1]
	}
	return word
}
