package rank_test

import (
	"fmt"
	"maps"
	"math"
	"math/rand"
	"slices"
	"strings"
	"testing"

	"waywiser/api"
	"waywiser/disk"
	"waywiser/index"
	"waywiser/pool"
	"waywiser/rank"
	"waywiser/score"
	"waywiser/stem"
	"waywiser/word"
)

// maxRow is the greatest row.
const maxRow = 1 << 53

func want(t *testing.T, what string, e, wants api.Errno) {
	t.Helper()
	if e != wants {
		t.Fatalf("%s tells %d, not %d", what, e, wants)
	}
}

// made is an empty index, with its pool and disk.
func made(t *testing.T) (*index.Index, *pool.Pool, *disk.Disk) {
	t.Helper()
	d := disk.New(20000, 512)
	p, e := pool.Format(d)
	want(t, "Format", e, api.OK)
	x, e := index.Make(p)
	want(t, "Make", e, api.OK)
	return x, p, d
}

// model is an index in the plainest way: of each row the stems of its words; "" for stop words.
type model map[int][]string

// stemsOf tells them of a text.
func stemsOf(text string) []string {
	l := []string{}
	for _, w := range word.Words(text) {
		if word.Stop(w.Text) {
			l = append(l, "")
		} else {
			l = append(l, stem.Stem(w.Text))
		}
	}
	return l
}

// add adds a row to an index, and to its model.
func (m model) add(t *testing.T, x *index.Index, row int, text string) {
	t.Helper()
	want(t, fmt.Sprint("Add of ", row), x.Add(row, text), api.OK)
	m[row] = stemsOf(text)
}

// filled is an index of texts, from row 1 on, with its model.
func filled(t *testing.T, texts ...string) (*index.Index, model) {
	t.Helper()
	x, _, _ := made(t)
	m := model{}
	for i, text := range texts {
		m.add(t, x, i+1, text)
	}
	return x, m
}

func (m model) rows() []int { return slices.Sorted(maps.Keys(m)) }

// stats tells how many texts and words there are.
func (m model) stats() score.Stats {
	s := score.Stats{Texts: len(m)}
	for _, l := range m {
		s.Total += len(l)
	}
	return s
}

// times tells how often a term stands in a row's text.
func (m model) times(row int, term string) int {
	n := 0
	for _, s := range m[row] {
		if s == term && term != "" {
			n++
		}
	}
	return n
}

// every tells all rows that answer, by the chapter's words.
func (m model) every(terms []string) []rank.Hit {
	all := map[int]int{}
	once := map[string]int{}
	for _, term := range terms {
		once[term]++
	}
	for term := range once {
		df := 0
		for row := range m {
			df += min(m.times(row, term), 1)
		}
		for row := range m {
			if tf := m.times(row, term); tf > 0 {
				all[row] += score.Score(m.stats(), df, tf, len(m[row]))
			}
		}
	}
	var l []rank.Hit
	for _, row := range slices.Sorted(maps.Keys(all)) {
		l = append(l, rank.Hit{Row: row, Score: all[row]})
	}
	return l
}

// ordered are rows that answer, in the order of answers.
func ordered(l []rank.Hit) []rank.Hit {
	l = slices.Clone(l)
	slices.SortFunc(l, func(a, b rank.Hit) int {
		if a.Score != b.Score {
			return b.Score - a.Score
		}
		return a.Row - b.Row
	})
	return l
}

// has: has a row a phrase, by the chapter's words?
func (m model) has(row int, text string) bool {
	l := stemsOf(text)
	for n := -len(l); n < len(m[row]); n++ {
		stand, words := true, 0
		for at, s := range l {
			if s != "" {
				words++
				stand = stand && n+at >= 0 && n+at < len(m[row]) && m[row][n+at] == s
			}
		}
		if stand && words > 0 {
			return true
		}
	}
	return false
}

// wantEvery holds Every against the rows that answer.
func wantEvery(t *testing.T, x *index.Index, terms []string, wants []rank.Hit) {
	t.Helper()
	if l, e := rank.Every(x, terms); !slices.Equal(l, wants) || e != api.OK {
		t.Fatalf("Every(%q): %v, %d; want %v", terms, l, e, wants)
	}
}

// wantTop holds Top against the rows that answer, in order, and what it asks of keep against the rules for that.
func wantTop(t *testing.T, x *index.Index, terms []string, most int, keep func(row int) bool, every []rank.Hit) {
	t.Helper()
	wants := every
	asked := keep
	if keep != nil {
		wants = slices.DeleteFunc(slices.Clone(every), func(h rank.Hit) bool { return !keep(h.Row) })
		ahead := -1
		asked = func(row int) bool {
			if row <= ahead || !slices.ContainsFunc(every, func(h rank.Hit) bool { return h.Row == row }) {
				t.Fatalf("Top(%q, %d): keep is asked of the row %d, behind %d", terms, most, row, ahead)
			}
			ahead = row
			return keep(row)
		}
	}
	wants = ordered(wants)
	wants = wants[:min(max(most, 0), len(wants))]
	if l, e := rank.Top(x, terms, most, asked); !slices.Equal(l, wants) || e != api.OK {
		t.Fatalf("Top(%q, %d): %v, %d; want %v", terms, most, l, e, wants)
	}
}

func wantPhrase(t *testing.T, x *index.Index, text string, wants ...int) {
	t.Helper()
	if l, e := rank.Phrase(x, text); !slices.Equal(l, wants) || e != api.OK {
		t.Fatalf("Phrase(%q): %v, %d; want %v", text, l, e, wants)
	}
}

func TestTop(t *testing.T) { // P20.1
	x, m := filled(t, "a ship", "two ships and a boat", "boats", "a town", "ship ship ship", "boat", "ship boat harbour", "")
	for _, terms := range [][]string{nil, {}, {"ship"}, {"boat"}, {"ship", "boat"}, {"boat", "ship"}, {"town", "harbour", "two"}, {"none"}, {"none", "ship"}} {
		every := m.every(terms)
		wantEvery(t, x, terms, every)
		for _, most := range []int{math.MinInt, -1, 0, 1, 2, 3, 4, 5, 6, 100, math.MaxInt} {
			wantTop(t, x, terms, most, nil, every)
			wantTop(t, x, terms, most, func(row int) bool { return row%2 == 1 }, every)
			wantTop(t, x, terms, most, func(row int) bool { return false }, every)
			wantTop(t, x, terms, most, func(row int) bool { return true }, every)
		}
	}
	if l := m.every([]string{"ship", "boat"}); len(l) != 6 {
		t.Fatalf("the model tells %v", l)
	}
}

// TestTermsOnce: a term counts once, and what may be none, or no row has, for nothing.
func TestTermsOnce(t *testing.T) { // P20.1
	x, m := filled(t, "a ship", "ships and boats", "a boat")
	wants := m.every([]string{"ship"})
	for _, terms := range [][]string{
		{"ship", "ship"}, {"ship", "ship", "ship", "none"}, {"none", "ship", "none", "ship"},
		{"", "ship", ""}, {"ship", "\x00", "ship\x00", "a", "the", "ships", "Ship"}, {"ship", strings.Repeat("s", 33), "sh", "shi", "shipp"},
	} {
		copied := slices.Clone(terms)
		wantEvery(t, x, terms, wants)
		wantTop(t, x, terms, 9, nil, wants)
		if !slices.Equal(terms, copied) {
			t.Errorf("%q was changed to %q", copied, terms)
		}
	}
	var many []string
	for i := range 3000 {
		many = append(many, fmt.Sprint("none", i%50), "ship")
	}
	wantTop(t, x, many, 9, nil, wants)
}

// TestSameScores: of rows of one score the lower ones come first, however many there are.
func TestSameScores(t *testing.T) { // P20.1
	x, _, _ := made(t)
	m := model{}
	for i := range 200 {
		m.add(t, x, maxRow-i*i, []string{"a ship", "the boat", "ship boat", "a ship", "one ship"}[i%5])
	}
	for _, terms := range [][]string{{"ship"}, {"ship", "boat"}, {"boat", "one"}} {
		every := m.every(terms)
		wantEvery(t, x, terms, every)
		for _, most := range []int{1, 2, 7, 8, 9, 16, 39, 40, 41, 79, 80, 81, 119, 120, 159, 160, 161, 199, 200, 201} {
			wantTop(t, x, terms, most, nil, every)
			wantTop(t, x, terms, most, func(row int) bool { return row%3 == 0 }, every)
		}
	}
}

// anyText is one by chance: of a few words that are frequent, and many that are not.
func anyText(r *rand.Rand, most int) string {
	words := strings.Fields("ship boat the town harbour line ships of sea x y")
	var b strings.Builder
	for range r.Intn(most + 1) {
		w := words[r.Intn(1+r.Intn(len(words)))]
		if r.Intn(6) == 0 {
			w = fmt.Sprint("w", r.Intn(40))
		}
		b.WriteString(w + " ")
	}
	if r.Intn(10) == 0 {
		b.WriteString(strings.Repeat("boat ", r.Intn(60)))
	}
	return b.String()
}

// anyTerms are some by chance.
func anyTerms(r *rand.Rand) []string {
	words := strings.Fields("ship boat town harbour line sea x y w1 w2 w3 w39 none the")
	var l []string
	for range r.Intn(6) {
		l = append(l, words[r.Intn(len(words))])
	}
	return l
}

// TestAllByChance holds all that is told against the model, while rows come and go.
func TestAllByChance(t *testing.T) { // P20.1, P20.2, P20.3
	r := rand.New(rand.NewSource(1))
	for range 30 {
		x, _, _ := made(t)
		m := model{}
		longest := 1 + r.Intn(40)
		rows := 1 + r.Intn(300)
		for range 400 {
			row := r.Intn(rows)
			if _, there := m[row]; !there {
				m.add(t, x, row, anyText(r, longest))
			} else if r.Intn(3) == 0 {
				want(t, "Drop", x.Drop(row), api.OK)
				delete(m, row)
			}
		}
		for range 25 {
			terms := anyTerms(r)
			every := m.every(terms)
			wantEvery(t, x, terms, every)
			k := 1 + r.Intn(5)
			for _, most := range []int{1, 2, 3, 10, r.Intn(100), 1000} {
				wantTop(t, x, terms, most, nil, every)
				wantTop(t, x, terms, most, func(row int) bool { return row%k == 0 }, every)
			}
			text := anyText(r, 4)
			var has []int
			for _, row := range m.rows() {
				if m.has(row, text) {
					has = append(has, row)
				}
			}
			wantPhrase(t, x, text, has...)
		}
	}
}

// TestManyRows: of many rows few are the best; keep is asked of no more than need be.
func TestManyRows(t *testing.T) { // P20.1
	x, _, _ := made(t)
	m := model{}
	r := rand.New(rand.NewSource(2))
	for row := range 1500 {
		text := "ship in a longer text of several other words"
		if row%400 == 399 {
			text = "ship ship"
		}
		if row%9 == 0 {
			text += strings.Repeat(" boat", 1+r.Intn(3))
		}
		m.add(t, x, row*7, text)
	}
	for _, terms := range [][]string{{"ship"}, {"boat"}, {"ship", "boat"}} {
		every := m.every(terms)
		wantEvery(t, x, terms, every)
		for _, most := range []int{1, 3, 50, 700} {
			asked := 0
			rank.Top(x, terms, most, func(row int) bool { asked++; return true })
			if most < 5 && asked > len(every)/10 {
				t.Errorf("Top(%q, %d): keep is asked of %d rows of %d", terms, most, asked, len(every))
			}
			wantTop(t, x, terms, most, nil, every)
			wantTop(t, x, terms, most, func(row int) bool { return row%2 == 0 }, every)
		}
	}
}

func TestPhrase(t *testing.T) { // P20.2
	x, m := filled(t,
		"a ship of the line",    // 1
		"ship of a line",        // 2
		"the line of ships",     // 3
		"ships the old lines",   // 4
		"ship line",             // 5
		"ship x y line z",       // 6
		"line ship of the line", // 7
		"ship",                  // 8
		"ship ship",             // 9
		"ship a ship",           // 10
		"",                      // 11
		"boat ship boat boat",   // 12
	)
	for text, wants := range map[string][]int{
		"ship of the line":        {1, 2, 4, 6, 7},
		"the ship of the line of": {1, 2, 4, 6, 7}, // stop words ahead and behind count for nothing
		"Shipped, was-there LINE": {1, 2, 4, 6, 7},
		"of the ship":             {1, 2, 3, 4, 5, 6, 7, 8, 9, 10, 12}, // where no word is ahead, too
		"ship line":               {5},
		"line ship":               {7},
		"line of ships":           {3},
		"ship ship":               {9},
		"ship the ship":           {10},
		"ship ship ship":          nil,
		"boat ship boat boat":     {12},
		"boat and boat boat":      {12},
		"boat boat boat":          nil,
		"old line":                {4},
		"ship none":               nil,
		"none":                    nil,
		"":                        nil,
		"the of a":                nil,
		"\xff -":                  nil,
		"ship" + strings.Repeat(" the", 100000) + " line":  nil,
		"ship" + strings.Repeat(" the", 1<<20) + " line":   nil,
		"ship" + strings.Repeat(" the", 1<<20-1) + " line": nil,
		strings.Repeat("the ", 1<<20+5) + "ship a ship":    {10},
	} {
		wantPhrase(t, x, text, wants...)
		for row := range m {
			if len(text) < 1000 && m.has(row, text) != slices.Contains(wants, row) {
				t.Errorf("the model tells another thing of %q in row %d", text, row)
			}
		}
	}
}

// TestPhraseOfManyRows: rows that have the words stand in many blocks, of some of them far from one another.
func TestPhraseOfManyRows(t *testing.T) { // P20.2
	x, _, _ := made(t)
	m := model{}
	for row := range 1200 {
		text := "boat"
		if row%2 == 0 {
			text += " ship"
		}
		if row%97 < 3 {
			text += " line"
		}
		if row%31 == 0 {
			text += strings.Repeat(" ship ship line", 1+row%4)
		}
		m.add(t, x, row, text)
	}
	for _, text := range []string{"boat", "boat ship", "ship line", "boat line", "boat ship line", "boat ship ship", "line ship ship line", "line the ship the line", "ship ship line ship ship line ship ship line"} {
		var has []int
		for _, row := range m.rows() {
			if m.has(row, text) {
				has = append(has, row)
			}
		}
		wantPhrase(t, x, text, has...)
	}
}

// TestLongPhrase: a text is a phrase that its row has, however long it is.
func TestLongPhrase(t *testing.T) { // P20.2
	x, _, _ := made(t)
	m := model{}
	r := rand.New(rand.NewSource(3))
	long := anyText(r, 3000) + " ship"
	m.add(t, x, 4, long)
	m.add(t, x, 5, "line "+long+" line")
	m.add(t, x, 6, long[5:])
	wantPhrase(t, x, long, 4, 5)
	most := strings.Repeat("x ", 1<<15)
	m.add(t, x, 7, most)
	wantPhrase(t, x, most, 7)
	wantPhrase(t, x, most+"x")
	wantPhrase(t, x, "x"+strings.Repeat(" the", 1<<15-2)+" x", 7)
	wantPhrase(t, x, "x"+strings.Repeat(" the", 1<<15-1)+" x")
}

func TestNilIndex(t *testing.T) { // P20.1, P20.2, R1
	for _, most := range []int{0, 5} {
		if l, e := rank.Top(nil, []string{"ship"}, most, nil); l != nil || e != api.ErrArg {
			t.Errorf("Top: %v, %d", l, e)
		}
	}
	for _, terms := range [][]string{nil, {"ship"}} {
		if l, e := rank.Every(nil, terms); l != nil || e != api.ErrArg {
			t.Errorf("Every: %v, %d", l, e)
		}
	}
	for _, text := range []string{"", "the", "ship"} {
		if l, e := rank.Phrase(nil, text); l != nil || e != api.ErrArg {
			t.Errorf("Phrase: %v, %d", l, e)
		}
	}
}

func TestEmptyIndex(t *testing.T) { // P20.1, P20.2
	for _, m := range []model{{}, {5: nil}} {
		x, _, _ := made(t)
		for row := range m {
			m.add(t, x, row, "")
		}
		wantEvery(t, x, []string{"ship"}, nil)
		wantTop(t, x, []string{"ship"}, 5, func(row int) bool { return true }, nil)
		wantPhrase(t, x, "ship")
	}
}

// TestPoolErrors lets the disk go down, while few or many of the pages are in the pool's memory: what is told is told whole, or it is the error.
func TestPoolErrors(t *testing.T) { // P20.1, P20.2
	for what, call := range map[string]func(x *index.Index) (int, api.Errno){
		"Top": func(x *index.Index) (int, api.Errno) {
			l, e := rank.Top(x, []string{"ship", "boat"}, 3, nil)
			return len(l), e
		},
		"Every": func(x *index.Index) (int, api.Errno) {
			l, e := rank.Every(x, []string{"ship", "boat"})
			return len(l), e
		},
		"Phrase": func(x *index.Index) (int, api.Errno) {
			l, e := rank.Phrase(x, "ship boat")
			return len(l), e
		},
	} {
		errors := 0
		for changed := range 40 {
			x, p, d := made(t)
			m := model{}
			for row := range 100 {
				m.add(t, x, row, "ship boat"+strings.Repeat(" ship", row%5))
			}
			want(t, "Commit", p.Commit(), api.OK)
			want(t, "Checkpoint", p.Checkpoint(), api.OK)
			for row := range changed {
				want(t, "Drop", x.Drop(row*9%100), api.OK)
			}
			d.Arm(1)
			d.Flush()
			n, e := call(x)
			if e != api.OK {
				want(t, what, e, api.ErrDown)
				errors++
			}
			if l, e := rank.Top(x, []string{"ship"}, 0, nil); len(l) != 0 || e != api.OK {
				t.Errorf("Top of none: %v, %d", l, e)
			}
			if l, e := rank.Phrase(x, "the"); len(l) != 0 || e != api.OK {
				t.Errorf("Phrase of none: %v, %d", l, e)
			}
			d.Crash(nil)
			all, f := call(x)
			if f != api.OK || all == 0 || e == api.OK && n != all || e != api.OK && n != 0 {
				t.Errorf("%s: %d rows, %d; behind the crash %d, %d", what, n, e, all, f)
			}
		}
		if errors < 5 {
			t.Errorf("%s: only %d errors", what, errors)
		}
	}
}

// TestMemoryIsNotShared changes what was handed out.
func TestMemoryIsNotShared(t *testing.T) { // R4
	x, m := filled(t, "a ship", "ships and boats", "a boat")
	terms := []string{"ship", "boat", "ship", "none"}[:3]
	every := m.every(terms)
	for range 2 {
		wantEvery(t, x, terms, every)
		l, _ := rank.Every(x, terms)
		clear(l)
		top, _ := rank.Top(x, terms, 2, nil)
		_ = append(top, rank.Hit{})
		clear(top)
		rows, _ := rank.Phrase(x, "boat")
		clear(rows)
		wantTop(t, x, terms, 2, nil, every)
		wantPhrase(t, x, "boat", 2, 3)
	}
	if !slices.Equal(terms[:4], []string{"ship", "boat", "ship", "none"}) {
		t.Errorf("the terms were changed to %q", terms[:4])
	}
}

// TestExamples are the chapter's, with the room that they have.
func TestExamples(t *testing.T) { // R7
	d := disk.New(2000, 512)
	p, _ := pool.Format(d)
	x, _ := index.Make(p)
	m := model{}
	m.add(t, x, 1, "a ship")
	m.add(t, x, 2, "two ships and a boat")
	l, e := rank.Top(x, []string{"ship"}, 10, nil)
	if e != api.OK || len(l) != 2 || l[0].Row != 1 || l[1].Row != 2 || l[0].Score <= l[1].Score {
		t.Errorf("Top: %v, %d", l, e)
	}
	m.add(t, x, 3, "ship of the line")
	m.add(t, x, 4, "ship the line")
	wantPhrase(t, x, "ship of the line", 3)
	want(t, "Commit", p.Commit(), api.OK)
}
