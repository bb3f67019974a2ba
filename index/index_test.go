package index_test

import (
	"fmt"
	"math"
	"math/rand"
	"reflect"
	"slices"
	"strconv"
	"strings"
	"testing"

	"waywiser/api"
	"waywiser/block"
	"waywiser/disk"
	"waywiser/index"
	"waywiser/pool"
	"waywiser/score"
	"waywiser/stem"
)

// The ends that the chapters name.
const (
	maxRow   = 1 << 53
	maxText  = 1 << 16
	mostRows = 8 // of a block
)

func want(t *testing.T, what string, e, wants api.Errno) {
	t.Helper()
	if e != wants {
		t.Fatalf("%s tells %d, not %d", what, e, wants)
	}
}

// formatted is a blank pool on a disk of so many sectors.
func formatted(t *testing.T, sectors, size int) (*pool.Pool, *disk.Disk) {
	t.Helper()
	d := disk.New(sectors, size)
	p, e := pool.Format(d)
	want(t, "Format", e, api.OK)
	return p, d
}

func opened(t *testing.T, d *disk.Disk) *pool.Pool {
	t.Helper()
	p, e := pool.Open(d)
	want(t, "pool.Open", e, api.OK)
	return p
}

// made is an empty index on a pool.
func made(t *testing.T, p *pool.Pool) *index.Index {
	t.Helper()
	x, e := index.Make(p)
	want(t, "Make", e, api.OK)
	return x
}

func open(t *testing.T, p *pool.Pool, root int) *index.Index {
	t.Helper()
	x, e := index.Open(p, root)
	want(t, "Open", e, api.OK)
	return x
}

func add(t *testing.T, x *index.Index, row int, text string) {
	t.Helper()
	want(t, fmt.Sprint("Add of ", row), x.Add(row, text), api.OK)
}

func drop(t *testing.T, x *index.Index, row int) {
	t.Helper()
	want(t, fmt.Sprint("Drop of ", row), x.Drop(row), api.OK)
}

func wantStats(t *testing.T, x *index.Index, texts, total int) {
	t.Helper()
	if s, e := x.Stats(); s != (score.Stats{Texts: texts, Total: total}) || e != api.OK {
		t.Fatalf("Stats: %v, %d; want %d, %d", s, e, texts, total)
	}
}

func wantTaken(t *testing.T, p *pool.Pool, n int) {
	t.Helper()
	if p.Taken() != n {
		t.Fatalf("%d pages are taken, not %d", p.Taken(), n)
	}
}

// same: are lists of postings alike?
func same(a, b []block.Posting) bool {
	return slices.EqualFunc(a, b, func(p, q block.Posting) bool {
		return p.Row == q.Row && p.Length == q.Length && slices.Equal(p.At, q.At)
	})
}

// told tells a list of postings, but not too much of it.
func told(l []block.Posting) string {
	s := fmt.Sprintf("%d: %v", len(l), l)
	return s[:min(len(s), 400)]
}

// wantTerm holds all that an index tells of a term against its postings.
func wantTerm(t *testing.T, x *index.Index, term string, wants []block.Posting) {
	t.Helper()
	if n, e := x.Count(term); n != len(wants) || e != api.OK {
		t.Fatalf("Count(%q): %d, %d; want %d", term, n, e, len(wants))
	}
	if l, e := x.Postings(term); !same(l, wants) || e != api.OK {
		t.Fatalf("Postings(%q): %s, %d; want %s", term, told(l), e, told(wants))
	}
	heads, e := x.Heads(term)
	want(t, "Heads", e, api.OK)
	left := wants
	for _, h := range heads {
		l, e := x.Load(term, h.First)
		if e != api.OK || len(l) == 0 || len(l) > mostRows || len(l) > len(left) || !same(l, left[:len(l)]) {
			t.Fatalf("Load(%q, %d): %s, %d; want the first ones of %s", term, h.First, told(l), e, told(left))
		}
		wantHead(t, h, l)
		for _, p := range l[1:] {
			wantNoBlock(t, x, term, p.Row)
		}
		left = left[len(l):]
	}
	if len(left) > 0 {
		t.Fatalf("Heads(%q): %v; %s are in no block", term, heads, told(left))
	}
}

// wantHead holds a head against its block, by the chapter's words.
func wantHead(t *testing.T, h index.Head, l []block.Posting) {
	t.Helper()
	wants := index.Head{First: l[0].Row, Last: l[len(l)-1].Row, Length: math.MaxInt}
	for _, p := range l {
		wants.Tf, wants.Length = max(wants.Tf, len(p.At)), min(wants.Length, p.Length)
	}
	if h != wants {
		t.Fatalf("a head %v, of %s", h, told(l))
	}
}

func wantNoBlock(t *testing.T, x *index.Index, term string, first int) {
	t.Helper()
	if l, e := x.Load(term, first); l != nil || e != api.ErrNone {
		t.Fatalf("Load(%q, %d): %s, %d", term, first, told(l), e)
	}
}

func at(row, length int, places ...int) block.Posting {
	return block.Posting{Row: row, Length: length, At: places}
}

// repeated is a text of a word so many times, and of other ones.
func repeated(word string, n int, others ...string) string {
	return strings.Repeat(word+" ", n) + strings.Join(others, " ")
}

func TestTerms(t *testing.T) { // P19.1
	long := strings.Repeat("b", 40)
	for text, wants := range map[string]struct {
		terms  []index.Term
		length int
	}{
		"":                                   {nil, 0},
		" -- !":                              {nil, 0},
		"\xff\x00":                           {nil, 0},
		"the of and":                         {nil, 3},
		"ship":                               {[]index.Term{{"ship", []int{0}}}, 1},
		"The ships of the harbour, the ship": {[]index.Term{{"harbour", []int{4}}, {"ship", []int{1, 6}}}, 7},
		"b a c, b":                           {[]index.Term{{"b", []int{0, 3}}, {"c", []int{2}}}, 4},
		"Ships SHIPPING shipped":             {[]index.Term{{"ship", []int{0, 1, 2}}}, 3},
		"\u65e5\u672c z \u00c6r\u00f8 10":    {[]index.Term{{"10", []int{3}}, {"aero", []int{2}}, {"z", []int{1}}, {"\u65e5\u672c", []int{0}}}, 4},
		long + " " + long + "s":              {[]index.Term{{long[:32], []int{0, 1}}}, 2},
		"was wasing":                         {[]index.Term{{"wase", []int{1}}}, 2}, // a stop word is told by the word, not by its stem
		"ing":                                {[]index.Term{{"ing", []int{0}}}, 1},
		"ands":                               {[]index.Term{{"and", []int{0}}}, 1}, // its stem may be one's text
	} {
		l, length := index.Terms(text)
		if length != wants.length || len(l) != len(wants.terms) || len(l) > 0 && !reflect.DeepEqual(l, wants.terms) {
			t.Errorf("Terms(%q): %v, %d", text, l, length)
		}
	}
}

// TestTermsOfAnyText holds terms of texts by chance against the chapter's words.
func TestTermsOfAnyText(t *testing.T) { // P19.1
	r := rand.New(rand.NewSource(1))
	for range 3000 {
		text := anyText(r, 40)
		l, length := index.Terms(text)
		wants := textOf(text)
		if length != wants.length || len(l) != len(wants.terms) {
			t.Fatalf("Terms(%q): %v, %d", text, l, length)
		}
		for i, term := range l {
			if i > 0 && l[i-1].Text >= term.Text || !slices.Equal(term.At, wants.terms[term.Text]) || !index.May(term.Text) {
				t.Fatalf("Terms(%q): %v", text, l)
			}
		}
	}
	l, length := index.Terms(repeated("a b", 100000)) // a text that is longer than a row's
	if length != 200000 || len(l) != 1 || len(l[0].At) != 100000 || l[0].At[99999] != 199999 {
		t.Errorf("Terms of a long text: %d words, %d terms", length, len(l))
	}
}

func TestMay(t *testing.T) { // P19.1
	for term, may := range map[string]bool{
		"": false, "a": true, "ship": true, "Ship": true, "the": true, " ": true, "\xff\xfe": true, "\x01": true,
		"\x00": false, "a\x00": false, "\x00a": false, "a\x00b": false,
		strings.Repeat("a", 32): true, strings.Repeat("a", 33): false, strings.Repeat("a", 31) + "\x00": false, strings.Repeat("\u00e4", 16): true, strings.Repeat("\u00e4", 17): false,
		strings.Repeat("a", 1<<20): false,
	} {
		if index.May(term) != may {
			t.Errorf("May(%.40q): %t", term, !may)
		}
	}
}

func TestMake(t *testing.T) { // P19.2
	p, d := formatted(t, 60, 512)
	if x, e := index.Make(nil); x != nil || e != api.ErrArg {
		t.Errorf("Make(nil): %v, %d", x, e)
	}
	x, y := made(t, p), made(t, p)
	if x.Root() != 1 || y.Root() != 2 || p.Taken() != 2 {
		t.Errorf("roots %d and %d, %d taken", x.Root(), y.Root(), p.Taken())
	}
	wantStats(t, x, 0, 0)
	wantTerm(t, x, "ship", nil)
	d.Arm(1)
	want(t, "Commit", p.Commit(), api.ErrDown)
	if x, e := index.Make(p); x != nil || e != api.ErrState {
		t.Errorf("Make on a dead pool: %v, %d", x, e)
	}
}

// TestMakeOnAFullPool: what a pool that is full can't do takes all back that was not committed.
func TestMakeOnAFullPool(t *testing.T) { // P19.2
	p, _ := formatted(t, 40, 512)
	p.Take()
	want(t, "Commit", p.Commit(), api.OK)
	for p.Taken() < p.Pages()-1 {
		p.Take()
	}
	if x, e := index.Make(p); x != nil || e != api.ErrFull {
		t.Errorf("Make: %v, %d", x, e)
	}
	wantTaken(t, p, 1)
}

func TestOpen(t *testing.T) { // P19.2
	p, d := formatted(t, 60, 512)
	x := made(t, p)
	add(t, x, 5, "a ship")
	if x, e := index.Open(nil, x.Root()); x != nil || e != api.ErrArg {
		t.Errorf("Open(nil): %v, %d", x, e)
	}
	for _, page := range []int{math.MinInt, -1, 0, 2, 28, 60, math.MaxInt} {
		if x, e := index.Open(p, page); x != nil || e != api.ErrNone {
			t.Errorf("Open(%d): %v, %d", page, x, e)
		}
	}
	y := open(t, p, x.Root())
	add(t, y, 7, "ships") // two of one root are one index
	for _, x := range []*index.Index{x, y} {
		wantTerm(t, x, "ship", []block.Posting{at(5, 2, 1), at(7, 1, 0)})
	}
	if y.Root() != x.Root() {
		t.Errorf("root %d", y.Root())
	}
	want(t, "Commit", p.Commit(), api.OK)
	p = opened(t, d)
	x = open(t, p, x.Root())
	wantTerm(t, x, "ship", []block.Posting{at(5, 2, 1), at(7, 1, 0)})
	wantStats(t, x, 2, 3)
}

func TestAddAndDrop(t *testing.T) { // P19.2, P19.3
	p, _ := formatted(t, 60, 512)
	x := made(t, p)
	for _, row := range []int{5, 0, maxRow, 6, maxRow - 1, 1} {
		want(t, "Drop", x.Drop(row), api.ErrNone)
		add(t, x, row, "a ship of ships")
		want(t, "Add once more", x.Add(row, "boats"), api.ErrThere)
		want(t, "Add of nothing", x.Add(row, ""), api.ErrThere)
	}
	wantTerm(t, x, "ship", []block.Posting{at(0, 4, 1, 3), at(1, 4, 1, 3), at(5, 4, 1, 3), at(6, 4, 1, 3), at(maxRow-1, 4, 1, 3), at(maxRow, 4, 1, 3)})
	wantTerm(t, x, "boat", nil)
	wantStats(t, x, 6, 24)
	for _, row := range []int{0, 6, maxRow} {
		drop(t, x, row)
		want(t, "Drop once more", x.Drop(row), api.ErrNone)
	}
	wantTerm(t, x, "ship", []block.Posting{at(1, 4, 1, 3), at(5, 4, 1, 3), at(maxRow-1, 4, 1, 3)})
	wantStats(t, x, 3, 12)
	add(t, x, 6, "boat")
	wantTerm(t, x, "boat", []block.Posting{at(6, 1, 0)})
	for _, row := range []int{1, 5, 6, maxRow - 1} {
		drop(t, x, row)
	}
	wantTerm(t, x, "ship", nil)
	wantTerm(t, x, "boat", nil)
	wantStats(t, x, 0, 0)
	wantTaken(t, p, 1)
}

// TestTextsWithoutTerms: rows whose texts have no terms, or no words, are there, too.
func TestTextsWithoutTerms(t *testing.T) { // P19.2, P19.3
	p, _ := formatted(t, 60, 512)
	x := made(t, p)
	add(t, x, 1, "")
	wantStats(t, x, 1, 0)
	add(t, x, 2, "the of the")
	wantStats(t, x, 2, 3)
	add(t, x, 3, "\xff --")
	wantStats(t, x, 3, 3)
	for row := 1; row <= 3; row++ {
		want(t, "Add", x.Add(row, "ship"), api.ErrThere)
	}
	wantTerm(t, x, "the", nil)
	wantTerm(t, x, "ship", nil)
	for row := 1; row <= 3; row++ {
		drop(t, x, row)
		want(t, "Drop", x.Drop(row), api.ErrNone)
	}
	wantStats(t, x, 0, 0)
	wantTaken(t, p, 1)
}

// TestWhatMayNotBe: which error comes first, also on a pool that is dead.
func TestWhatMayNotBe(t *testing.T) { // P19.2
	p, d := formatted(t, 1000, 512)
	x := made(t, p)
	most := strings.Repeat("ab, ", maxText/4)
	add(t, x, 5, most)
	want(t, "Commit", p.Commit(), api.OK)
	check := func() {
		t.Helper()
		for _, row := range []int{math.MinInt, -1, maxRow + 1, math.MaxInt} {
			want(t, "Add", x.Add(row, "ship"), api.ErrRange)
			want(t, "Add of a long text", x.Add(row, most+" "), api.ErrRange)
			want(t, "Drop", x.Drop(row), api.ErrNone)
			wantNoBlock(t, x, "ab", row)
		}
		want(t, "Add of a long text", x.Add(6, most+" "), api.ErrLong)
		want(t, "Add of a long text to a row that is there", x.Add(5, most+"a"), api.ErrLong)
		want(t, "Add", x.Add(5, most), api.ErrThere)
		want(t, "Drop", x.Drop(6), api.ErrNone)
		for _, term := range []string{"", "\x00", "ab\x00", "a\x00b", strings.Repeat("a", 33), "ab\x00\x00\x00\x00\x00\x00\x00\x05"} {
			wantTerm(t, x, term, nil)
			wantNoBlock(t, x, term, 5)
		}
	}
	check()
	d.Arm(1)
	want(t, "Checkpoint", p.Checkpoint(), api.ErrDown)
	check()
	want(t, "Add", x.Add(6, most), api.ErrState)
	want(t, "Drop", x.Drop(5), api.ErrState)
	wantStats(t, x, 1, maxText/4)
}

func TestNilIndex(t *testing.T) { // P19.3, R1
	var x *index.Index
	if x.Root() != 0 {
		t.Error("a nil index has a root")
	}
	for what, e := range map[string]api.Errno{"Add": x.Add(-1, strings.Repeat("a", maxText+1)), "Drop": x.Drop(-1), "Free": x.Free()} {
		want(t, what, e, api.ErrArg)
	}
	for _, term := range []string{"", "ship"} {
		s, e := x.Stats()
		n, f := x.Count(term)
		if s != (score.Stats{}) || e != api.ErrArg || n != 0 || f != api.ErrArg {
			t.Errorf("Stats %v, %d; Count %d, %d", s, e, n, f)
		}
		heads, e := x.Heads(term)
		l, f := x.Load(term, -1)
		all, g := x.Postings(term)
		if heads != nil || e != api.ErrArg || l != nil || f != api.ErrArg || all != nil || g != api.ErrArg {
			t.Errorf("Heads %v, %d; Load %v, %d; Postings %v, %d", heads, e, l, f, all, g)
		}
	}
}

// TestBlocks adds rows in all kinds of orders, so that blocks are parted at all ends.
func TestBlocks(t *testing.T) { // P19.3, P19.4
	const many = 300
	r := rand.New(rand.NewSource(2))
	orders := map[string][]int{"by chance": r.Perm(many), "up": nil, "down": nil, "from both ends": nil, "by sevens": nil}
	for i := range many {
		orders["up"] = append(orders["up"], i)
		orders["down"] = append(orders["down"], many-1-i)
		orders["by sevens"] = append(orders["by sevens"], i*7%many)
		if i%2 == 0 {
			orders["from both ends"] = append(orders["from both ends"], i/2)
		} else {
			orders["from both ends"] = append(orders["from both ends"], many-1-i/2)
		}
	}
	for what, order := range orders {
		p, _ := formatted(t, 4000, 512)
		x := made(t, p)
		m := model{}
		for i, row := range order {
			s := repeated("ship", 1+row%5, "boat")
			add(t, x, row, s)
			m[row] = textOf(s)
			if i%20 == 0 {
				wantTerm(t, x, "ship", m.postings("ship"))
			}
		}
		wantTerm(t, x, "ship", m.postings("ship"))
		wantTerm(t, x, "boat", m.postings("boat"))
		heads, _ := x.Heads("boat")
		if len(heads) > many/3 || what == "up" && len(heads) > many/mostRows+1 {
			t.Errorf("%s: %d blocks", what, len(heads))
		}
		for i, row := range order {
			drop(t, x, (row+many/2)%many)
			delete(m, (row+many/2)%many)
			if i%20 == 0 {
				wantTerm(t, x, "ship", m.postings("ship"))
			}
		}
		wantTaken(t, p, 1)
	}
}

// TestLongTexts: as many places as a text can have, in all rows of what could be one block, or two.
func TestLongTexts(t *testing.T) { // P19.2, P19.3, P19.4
	p, d := formatted(t, 8000, 512)
	x := made(t, p)
	m := model{}
	for row := range 17 {
		s := repeated("x", maxText/2)
		if row%3 == 1 {
			s = "y " + repeated("x", 1+row)
		}
		add(t, x, row, s)
		m[row] = textOf(s)
		want(t, "Commit", p.Commit(), api.OK)
	}
	x = open(t, opened(t, d), x.Root())
	wantTerm(t, x, "x", m.postings("x"))
	wantTerm(t, x, "y", m.postings("y"))
	total := 0
	for row := range 17 {
		total += m[row].length
	}
	wantStats(t, x, 17, total)
	for row := range 17 {
		drop(t, x, 16-row)
		delete(m, 16-row)
		wantTerm(t, x, "x", m.postings("x"))
	}
}

// TestManyTerms: a text of as many terms as it can have, and of the longest ones.
func TestManyTerms(t *testing.T) { // P19.2, P19.3
	for _, length := range []int{3, 32} {
		p, _ := formatted(t, 40000, 512)
		x := made(t, p)
		var words []string
		for i := range maxText / (length + 1) {
			figures := strings.Repeat("0", length) + strconv.FormatInt(int64(i), 36)
			words = append(words, figures[len(figures)-length:])
		}
		text := strings.Join(words, " ")
		add(t, x, 1, text)
		add(t, x, 2, strings.ToUpper(text))
		for i, w := range words {
			if i%97 == 0 && stem.Stem(w) == w {
				wantTerm(t, x, w, []block.Posting{at(1, len(words), i), at(2, len(words), i)})
			}
		}
		drop(t, x, 1)
		wantTerm(t, x, words[9], []block.Posting{at(2, len(words), 9)})
		drop(t, x, 2)
		wantTaken(t, p, 1)
	}
}

// TestTermsThatBeginAlike: no term has what another one has that begins so, whatever the rows are.
func TestTermsThatBeginAlike(t *testing.T) { // P19.3
	p, _ := formatted(t, 2000, 512)
	x := made(t, p)
	m := model{}
	for i := range 60 {
		row := i * 0x01010101010 % maxRow // bytes 0 and others, within a key
		s := repeated("b", 1+i%3, "bb", "bbb", strings.Repeat("b", 32), "b\u00a0b", "bb\u0101")
		if i%2 == 0 {
			s = "bb"
		}
		add(t, x, row, s)
		m[row] = textOf(s)
	}
	for _, term := range []string{"b", "bb", "bbb", strings.Repeat("b", 32), "bba", "a", "bbbb"} {
		wantTerm(t, x, term, m.postings(term))
	}
}

// TestNoTerms: of what may be no term nothing is told, also of what would be found if it were taken for one.
func TestNoTerms(t *testing.T) { // P19.3
	p, _ := formatted(t, 2000, 512)
	x := made(t, p)
	for row := 249; row < 300; row++ {
		add(t, x, row, "b bb")
	}
	for _, behind := range []string{"\x00", "\x00\x00\x00\x00\x00\x00\x01", "\x00\x00\x00\x00\x00\x00\x01\x00", "\x00\x00\x00\x00\x00\x00\x01\x08"} {
		wantTerm(t, x, "b"+behind, nil)
		wantTerm(t, x, behind, nil)
		wantNoBlock(t, x, "b"+behind, 256)
	}
	for _, length := range []int{33, 61, 62, 63, 64, 100, 1 << 20} {
		wantTerm(t, x, strings.Repeat("b", length), nil)
		wantNoBlock(t, x, strings.Repeat("b", length), 256)
	}
}

func TestFree(t *testing.T) { // P19.2, P19.4
	p, _ := formatted(t, 4000, 512)
	y := made(t, p)
	add(t, y, 1, "a ship")
	for _, many := range []int{0, 1, 9, 100} {
		for _, text := range []string{"", "ship", repeated("ship", 1000, "boat")} {
			x := made(t, p)
			for row := range many {
				add(t, x, row, text)
			}
			want(t, "Free", x.Free(), api.OK)
			wantTaken(t, p, 1)
		}
	}
	wantTerm(t, y, "ship", []block.Posting{at(1, 2, 1)})
	want(t, "Free", y.Free(), api.OK)
	wantTaken(t, p, 0)
}

// TestPoolErrors lets the disk go down, and asks the dead pool's index while it is down, and behind the crash.
func TestPoolErrors(t *testing.T) { // P19.2, P19.3
	changes := map[string]func(x *index.Index) api.Errno{
		"Add":          func(x *index.Index) api.Errno { return x.Add(3, "ship") },
		"Add of no":    func(x *index.Index) api.Errno { return x.Add(3, "") },
		"Add once":     func(x *index.Index) api.Errno { return x.Add(2, "a ship") },
		"Drop":         func(x *index.Index) api.Errno { return x.Drop(2) },
		"Drop of none": func(x *index.Index) api.Errno { return x.Drop(3) },
		"Free":         func(x *index.Index) api.Errno { return x.Free() },
	}
	asks := map[string]func(x *index.Index) (any, api.Errno){
		"Stats":         func(x *index.Index) (any, api.Errno) { return x.Stats() },
		"Count":         func(x *index.Index) (any, api.Errno) { return x.Count("ship") },
		"Count of none": func(x *index.Index) (any, api.Errno) { return x.Count("boat") },
		"Heads":         func(x *index.Index) (any, api.Errno) { return x.Heads("ship") },
		"Load":          func(x *index.Index) (any, api.Errno) { return x.Load("ship", 1) },
		"Load of none":  func(x *index.Index) (any, api.Errno) { return x.Load("ship", 7) },
		"Postings":      func(x *index.Index) (any, api.Errno) { return x.Postings("ship") },
	}
	for what, ask := range asks {
		changes[what] = func(x *index.Index) api.Errno {
			v, e := ask(x)
			if e != api.OK && !reflect.ValueOf(v).IsZero() {
				t.Errorf("%s: %v beside %d", what, v, e)
			}
			return e
		}
	}
	for what, call := range changes {
		p, d := formatted(t, 60, 512)
		x := made(t, p)
		add(t, x, 1, "a ship")
		add(t, x, 2, "ships")
		want(t, "Commit", p.Commit(), api.OK)
		want(t, "Checkpoint", p.Checkpoint(), api.OK)
		p.SetRoot(0, 7)
		d.Arm(1)
		d.Flush()
		for range 2 {
			want(t, what, call(x), api.ErrDown)
			for _, row := range []int{-1, maxRow + 1} { // what may not be needs no disk
				want(t, "Drop", x.Drop(row), api.ErrNone)
				wantNoBlock(t, x, "ship", row)
			}
			wantTerm(t, x, "", nil)
			wantNoBlock(t, x, "", 1)
		}
		if !p.Dead() {
			t.Errorf("%s: the pool is not dead", what)
		}
		d.Crash(nil)
		e := api.OK
		switch what {
		case "Add", "Add of no", "Drop", "Free":
			e = api.ErrState
		case "Add once":
			e = api.ErrThere
		case "Drop of none", "Load of none":
			e = api.ErrNone
		}
		want(t, what, call(x), e)
		wantTerm(t, x, "ship", []block.Posting{at(1, 2, 1), at(2, 1, 0)})
		wantStats(t, x, 2, 3)
	}
}

func TestMemoryIsNotShared(t *testing.T) { // R4
	p, _ := formatted(t, 200, 512)
	x := made(t, p)
	var wants []block.Posting
	for row := range 20 {
		add(t, x, row, "ship ship")
		wants = append(wants, at(row, 2, 0, 1))
	}
	for range 2 {
		wantTerm(t, x, "ship", wants)
		all, _ := x.Postings("ship")
		for i := range all {
			spoil(all[i].At)
			if i+1 < len(all) && all[i+1].At[0] != 0 {
				t.Error("postings share memory")
			}
			all[i].Row = 99
		}
		_ = append(all, at(9, 9, 9))
		heads, _ := x.Heads("ship")
		first, _ := x.Load("ship", heads[0].First)
		spoil(first[0].At)
		clear(first)
		clear(heads)
	}
	l, _ := index.Terms("c b c b")
	spoil(l[0].At)
	if !slices.Equal(l[1].At, []int{0, 2}) {
		t.Errorf("terms share memory: %v", l)
	}
	if l, _ := index.Terms("c b c b"); !slices.Equal(l[0].At, []int{1, 3}) {
		t.Errorf("Terms: %v", l)
	}
}

// spoil changes numbers, and those behind them.
func spoil(l []int) {
	for i := range l {
		l[i] = 99
	}
	_ = append(l, 99, 99)
}

// TestExamples are the chapter's, with the room that they have.
func TestExamples(t *testing.T) { // R7
	l, length := index.Terms("The ships of the harbour, the ship")
	if !reflect.DeepEqual(l, []index.Term{{Text: "harbour", At: []int{4}}, {Text: "ship", At: []int{1, 6}}}) || length != 7 {
		t.Errorf("Terms: %v, %d", l, length)
	}
	p, d := formatted(t, 60, 512)
	x := made(t, p)
	add(t, x, 5, "a ship")
	if n, e := x.Count("ship"); n != 1 || e != api.OK {
		t.Errorf("Count: %d, %d", n, e)
	}
	wantStats(t, x, 1, 2)
	want(t, "Commit", p.Commit(), api.OK)
	wantStats(t, open(t, opened(t, d), x.Root()), 1, 2)
}
