package index_test

import (
	"bytes"
	"maps"
	"math/rand"
	"slices"
	"strings"
	"testing"

	"waywiser/api"
	"waywiser/block"
	"waywiser/index"
	"waywiser/stem"
	"waywiser/word"
)

// model is an index in the plainest way: the rows' texts.
type model map[int]text

// text is the places of a text's terms, and its length.
type text struct {
	terms  map[string][]int
	length int
}

// textOf is that of a text, by the chapter's words.
func textOf(s string) text {
	words := word.Words(s)
	t := text{map[string][]int{}, len(words)}
	for at, w := range words {
		if !word.Stop(w.Text) {
			t.terms[stem.Stem(w.Text)] = append(t.terms[stem.Stem(w.Text)], at)
		}
	}
	return t
}

// postings tells a term's.
func (m model) postings(term string) []block.Posting {
	var l []block.Posting
	for _, row := range slices.Sorted(maps.Keys(m)) {
		if t := m[row]; len(t.terms[term]) > 0 {
			l = append(l, at(row, t.length, t.terms[term]...))
		}
	}
	return l
}

// same holds all that an index tells against its model.
func (m model) same(t *testing.T, x *index.Index) {
	t.Helper()
	total := 0
	for _, t := range m {
		total += t.length
	}
	wantStats(t, x, len(m), total)
	for _, w := range someWords() {
		wantTerm(t, x, stem.Stem(w), m.postings(stem.Stem(w)))
	}
}

// someWords are those of texts by chance: stop words, such as have one stem, short ones and long ones.
func someWords() []string {
	return append(strings.Fields("the of a ship ships shipping boat boats harbour line town towns x y 42 \u00e6r\u00f8 \u65e5\u672c"), strings.Repeat("long", 8))
}

// anyText is one by chance, of at most so many words.
func anyText(r *rand.Rand, most int) string {
	var b strings.Builder
	words := someWords()
	for range r.Intn(most + 1) {
		b.WriteString(words[r.Intn(1+r.Intn(len(words)))])
		b.WriteString([]string{" ", ", ", "-", "\x00", "\xff "}[r.Intn(5)])
	}
	return b.String()
}

// anyRow is one by chance, of those of which some often come again: those at the ends, and between.
func anyRow(r *rand.Rand) int {
	switch r.Intn(8) {
	case 0:
		return maxRow - r.Intn(10)
	case 1:
		return r.Intn(40) << (8 * (1 + r.Intn(5)))
	}
	return r.Intn(60)
}

// TestIndexIsItsModel does by chance what may be done with two indexes of a pool.
func TestIndexIsItsModel(t *testing.T) { // P19.2, P19.3, P19.4
	r := rand.New(rand.NewSource(1))
	for turn := range 16 {
		p, d := formatted(t, 3000, []int{512, 513, 1024, 4096}[turn%4])
		x := []*index.Index{made(t, p), made(t, p)}
		now := []model{{}, {}}
		want(t, "Commit", p.Commit(), api.OK)
		then := []model{{}, {}}
		adds := 2 + r.Intn(8)
		for range 200 {
			i := r.Intn(2)
			switch k := r.Intn(24); {
			case k == 0:
				want(t, "Commit", p.Commit(), api.OK)
				then = []model{maps.Clone(now[0]), maps.Clone(now[1])}
			case k == 1 && r.Intn(4) == 0:
				want(t, "Back", p.Back(), api.OK)
				now = []model{maps.Clone(then[0]), maps.Clone(then[1])}
			case k == 2 && r.Intn(4) == 0:
				p = opened(t, d)
				now = []model{maps.Clone(then[0]), maps.Clone(then[1])}
				x = []*index.Index{open(t, p, x[0].Root()), open(t, p, x[1].Root())}
			case k < 4:
				adds = 2 + r.Intn(18)
			case k < 4+adds:
				now[i].add(t, r, x[i])
			default:
				now[i].drop(t, r, x[i])
			}
			now[i].same(t, x[i])
		}
		for i := range x {
			now[i].same(t, x[i])
			for row := range now[i] {
				drop(t, x[i], row)
			}
			model{}.same(t, x[i])
		}
		wantTaken(t, p, 2)
		want(t, "Free", x[0].Free(), api.OK)
		want(t, "Free", x[1].Free(), api.OK)
		wantTaken(t, p, 0)
	}
}

// add adds a row by chance.
func (m model) add(t *testing.T, r *rand.Rand, x *index.Index) {
	t.Helper()
	row, text := anyRow(r), anyText(r, 1+r.Intn(60))
	if r.Intn(12) == 0 {
		text += repeated("ship", r.Intn(600))
	}
	if _, there := m[row]; there {
		want(t, "Add", x.Add(row, text), api.ErrThere)
		return
	}
	add(t, x, row, text)
	m[row] = textOf(text)
}

// drop drops one by chance.
func (m model) drop(t *testing.T, r *rand.Rand, x *index.Index) {
	t.Helper()
	row := anyRow(r)
	if rows := slices.Sorted(maps.Keys(m)); len(rows) > 0 && r.Intn(4) > 0 {
		row = rows[r.Intn(len(rows))]
	}
	e := api.ErrNone
	if _, there := m[row]; there {
		e = api.OK
	}
	want(t, "Drop", x.Drop(row), e)
	delete(m, row)
}

// isModel: has an index just what a model has?
func (m model) isModel(x *index.Index) bool {
	if s, e := x.Stats(); s.Texts != len(m) || e != api.OK {
		return false
	}
	for _, w := range someWords() {
		if l, e := x.Postings(stem.Stem(w)); !same(l, m.postings(stem.Stem(w))) || e != api.OK {
			return false
		}
	}
	return true
}

// TestDown lets the disk go down while a row of changes is committed: opened behind the crash, the index has what was there at the last commit, or at the one more.
func TestDown(t *testing.T) { // P3
	r := rand.New(rand.NewSource(2))
	for range 150 {
		p, d := formatted(t, 600, 512)
		x := made(t, p)
		then, now := model{}, model{}
		for {
			want(t, "Commit", p.Commit(), api.OK)
			then = maps.Clone(now)
			for range 1 + r.Intn(4) {
				if r.Intn(3) == 0 {
					now.drop(t, r, x)
				} else {
					now.add(t, r, x)
				}
			}
			if r.Intn(6) == 0 {
				break
			}
		}
		d.Arm(1 + r.Intn(40))
		e := p.Commit()
		d.Crash([]int{r.Intn(2), r.Intn(2), r.Intn(2), r.Intn(513)})
		x = open(t, opened(t, d), x.Root())
		if !(e != api.OK && then.isModel(x)) {
			now.same(t, x)
		}
	}
}

// TestSameBytes does the same with several indexes: their disks are alike.
func TestSameBytes(t *testing.T) { // R5
	var wants []byte
	for range 4 {
		r := rand.New(rand.NewSource(3))
		p, d := formatted(t, 2000, 512)
		x := made(t, p)
		m := model{}
		for range 150 {
			if r.Intn(3) == 0 {
				m.drop(t, r, x)
			} else {
				m.add(t, r, x)
			}
			want(t, "Commit", p.Commit(), api.OK)
		}
		var got []byte
		for at := range d.Sectors() {
			b, _ := d.Read(at)
			got = append(got, b...)
		}
		if wants == nil {
			wants = got
		}
		if !bytes.Equal(got, wants) {
			t.Fatal("indexes to which the same was done have not the same bytes")
		}
	}
}

// TestFull: an Add that the pool has no room for takes all changes back, of other indexes, too.
func TestFull(t *testing.T) { // P19.2
	r := rand.New(rand.NewSource(4))
	for range 60 {
		p, d := formatted(t, 60, 512)
		x, y := made(t, p), made(t, p)
		m := model{}
		for row, s := range []string{"", "a ship", "boats of the harbour"} {
			add(t, x, row, s)
			add(t, y, row, s)
			m[row] = textOf(s)
		}
		want(t, "Commit", p.Commit(), api.OK)
		ahead := p.Taken()
		e := api.OK
		for row := 3; e == api.OK; row++ {
			if row > 1000 {
				t.Fatal("the pool is never full")
			}
			y.Drop(row - 3)
			e = x.Add(row, anyText(r, 1+r.Intn(100))+repeated("ship", r.Intn(300)))
		}
		want(t, "Add", e, api.ErrFull)
		wantTaken(t, p, ahead)
		for range 2 {
			m.same(t, x)
			m.same(t, y)
			want(t, "Add", x.Add(1, ""), api.ErrThere)
			want(t, "Drop", x.Drop(3), api.ErrNone)
			want(t, "Commit", p.Commit(), api.OK)
			p = opened(t, d)
			x, y = open(t, p, x.Root()), open(t, p, y.Root())
		}
		add(t, x, 3, "a town")
		wantTerm(t, x, "town", []block.Posting{at(3, 2, 1)})
	}
}

// TestDropOnAFullPool: where nothing can be added any more, rows can go, and their pages are there for others.
func TestDropOnAFullPool(t *testing.T) { // P19.2
	p, _ := formatted(t, 100, 512)
	x := made(t, p)
	m := model{}
	for row := 0; ; row++ {
		text := repeated("ship", row%7, "boat", strings.Repeat("town ", row%3), strings.Repeat("x", row%32))
		e := x.Add(row, text)
		if e == api.ErrFull {
			break
		}
		want(t, "Add", e, api.OK)
		m[row] = textOf(text)
		want(t, "Commit", p.Commit(), api.OK)
	}
	m.same(t, x)
	for p.Taken() < p.Pages()-1 {
		p.Take()
	}
	for i, row := range slices.Sorted(maps.Keys(m)) {
		drop(t, x, row)
		delete(m, row)
		if i%8 == 0 {
			m.same(t, x)
		}
	}
	m.same(t, x)
	add(t, x, 1, "a ship")
}

// TestNothingByHalves: pages are partly in the pool's memory alone, and the disk is down. What tells an error has changed nothing that is told behind the crash.
func TestNothingByHalves(t *testing.T) { // P19.2, R2
	errors := 0
	for seed := range 400 {
		r := rand.New(rand.NewSource(int64(seed)))
		p, d := formatted(t, 1000, 512)
		x := made(t, p)
		m := model{}
		for range 10 + r.Intn(30) {
			m.add(t, r, x)
			want(t, "Commit", p.Commit(), api.OK)
		}
		want(t, "Checkpoint", p.Checkpoint(), api.OK)
		for range 1 + r.Intn(8) {
			if r.Intn(2) == 0 {
				m.add(t, r, x)
			} else {
				m.drop(t, r, x)
			}
		}
		taken := p.Taken()
		d.Arm(1)
		d.Flush()
		row := anyRow(r)
		if rows := slices.Sorted(maps.Keys(m)); r.Intn(2) == 0 && len(rows) > 0 {
			row = rows[r.Intn(len(rows))]
		}
		e := m.turn(x, row, anyText(r, 1+r.Intn(20)))
		d.Crash(nil)
		if _, there := m[row]; there {
			want(t, "Add", x.Add(row, "ship"), api.ErrThere)
		} else {
			want(t, "Drop", x.Drop(row), api.ErrNone)
		}
		if e != api.OK {
			want(t, "Add or Drop", e, api.ErrDown)
			wantTaken(t, p, taken)
			errors++
		}
		m.same(t, x)
	}
	if errors < 100 {
		t.Errorf("only %d errors", errors)
	}
}

// turn adds a row, if it is not there, else it drops it; the error.
func (m model) turn(x *index.Index, row int, s string) api.Errno {
	_, there := m[row]
	var e api.Errno
	if there {
		e = x.Drop(row)
	} else {
		e = x.Add(row, s)
	}
	switch {
	case e != api.OK:
	case there:
		delete(m, row)
	default:
		m[row] = textOf(s)
	}
	return e
}

// TestOneTermByHalves does so with one term's rows alone, of which few have room on a page, near one another: for some of them a block is parted whose part ahead comes to stand on another page than the one that was looked at.
func TestOneTermByHalves(t *testing.T) { // P19.2, R2
	for seed := 13740; seed < 13780; seed++ {
		r := rand.New(rand.NewSource(int64(seed)))
		p, d := formatted(t, 1000, 512)
		x := made(t, p)
		m := model{}
		turn := func(row int) api.Errno {
			return m.turn(x, row, repeated("ship", 1+r.Intn(20)))
		}
		for range 40 + r.Intn(80) {
			want(t, "Add or Drop", turn(r.Intn(100)), api.OK)
		}
		want(t, "Commit", p.Commit(), api.OK)
		want(t, "Checkpoint", p.Checkpoint(), api.OK)
		from := r.Intn(100)
		for range 1 + r.Intn(6) {
			want(t, "Add or Drop", turn(from+r.Intn(5)), api.OK)
		}
		d.Arm(1)
		d.Flush()
		turn(from + r.Intn(5))
		d.Crash(nil)
		m.same(t, x)
	}
}
