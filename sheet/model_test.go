package sheet_test

import (
	"bytes"
	"cmp"
	"fmt"
	"maps"
	"math/rand"
	"slices"
	"testing"

	"waywiser/api"
	"waywiser/geom"
	"waywiser/index"
	"waywiser/json"
	layer5 "waywiser/order"
	"waywiser/path"
	"waywiser/pool"
	"waywiser/shape"
	"waywiser/sheet"
)

// model is a sheet in the plainest way.
type model struct {
	docs  map[int]json.Object // by their rows
	last  int
	specs []sheet.Spec
}

func (m model) copied() model {
	return model{maps.Clone(m.docs), m.last, slices.Clone(m.specs)}
}

// id is a document's name.
func id(doc any) any {
	v, _ := json.Field(doc, "_id")
	return v
}

// row tells the row of a name; 0, if there is none.
func (m model) row(name any) int {
	for row, doc := range m.docs {
		if json.Same(id(doc), name) {
			return row
		}
	}
	return 0
}

// rows tells those whose documents are asked for, in order.
func (m model) rows(p string, asked func(v any) bool) []int {
	var l []int
	for _, row := range slices.Sorted(maps.Keys(m.docs)) {
		if v, leads := path.Get(m.docs[row], p); leads && asked(v) {
			l = append(l, row)
		}
	}
	return l
}

// same holds all that a sheet tells against its model.
func (m model) same(t *testing.T, r maker, s *sheet.Sheet) {
	t.Helper()
	if s.Count() != len(m.docs) || !slices.Equal(s.Indexes(), m.specs) {
		t.Fatalf("%d documents, %v; want %d, %v", s.Count(), s.Indexes(), len(m.docs), m.specs)
	}
	wants := slices.SortedFunc(maps.Keys(m.docs), func(a, b int) int {
		sign, _ := layer5.Compare(id(m.docs[a]), id(m.docs[b]))
		return sign
	})
	rows, e := s.Rows()
	wantRows(t, "Rows", rows, e, wants...)
	for row := range m.last + 2 {
		doc, e := s.Row(row)
		if wants, there := m.docs[row]; there {
			wantDoc(t, fmt.Sprint("Row ", row), doc, e, text(wants))
			doc, e = s.Get(id(wants))
			wantDoc(t, "Get of "+text(id(wants)), doc, e, text(wants))
		} else if doc != nil || e != api.ErrNone {
			t.Fatalf("Row %d: %v, %d", row, doc, e)
		}
	}
	for _, x := range m.specs {
		m.sameIndex(t, r, s, x)
	}
}

// sameIndex holds what an index tells against the model.
func (m model) sameIndex(t *testing.T, r maker, s *sheet.Sheet, x sheet.Spec) {
	t.Helper()
	switch x.Kind {
	case "order":
		low, high := r.value(2), r.value(2)
		exact := m.rows(x.Path, func(v any) bool { return sign(v, low) >= 0 && sign(v, high) <= 0 })
		near := m.rows(x.Path, func(v any) bool { return begins(v, low) >= 0 && begins(v, high) <= 0 })
		rows, e := s.Between(x, low, high)
		wantAmong(t, fmt.Sprint(x, " between ", text(low), " and ", text(high)), rows, e, exact, near)
	case "cell", "spot":
		b := r.box()
		exact := m.rows(x.Path, func(v any) bool { return overlaps(v, b, x.Kind == "cell") })
		most := exact
		if x.Kind == "cell" {
			most = m.rows(x.Path, func(v any) bool { return overlaps(v, rect(-180, -90, 180, 90), true) })
		}
		rows, e := s.Box(x, b)
		wantAmong(t, fmt.Sprint(x, b), rows, e, exact, most)
		if x.Kind == "spot" {
			m.sameNear(t, r, s, x)
		}
	case "text":
		m.sameText(t, s, x)
	}
}

func (m model) sameNear(t *testing.T, r maker, s *sheet.Sheet, x sheet.Spec) {
	t.Helper()
	p := api.Point{X: int64(r.number()), Y: int64(r.number())}
	wants := m.rows(x.Path, func(v any) bool { return overlaps(v, rect(-180, -90, 180, 90), false) })
	away := func(row int) uint64 {
		v, _ := path.Get(m.docs[row], x.Path)
		s, _ := shape.Read(v)
		return geom.Nearest(shape.Box(s), p)
	}
	slices.SortStableFunc(wants, func(a, b int) int { return cmp.Compare(away(a), away(b)) })
	most := r.Intn(len(m.docs) + 2)
	rows, e := s.Near(x, p, most)
	wantRows(t, fmt.Sprint(x, p, most), rows, e, wants[:min(most, len(wants))]...)
}

func (m model) sameText(t *testing.T, s *sheet.Sheet, x sheet.Spec) {
	t.Helper()
	k, e := s.Text(x)
	want(t, "Text", e, api.OK)
	texts, total := 0, 0
	having := map[string][]int{}
	for _, row := range m.rows(x.Path, func(any) bool { return true }) {
		v, _ := path.Get(m.docs[row], x.Path)
		if text, is := v.(string); is {
			terms, length := index.Terms(text)
			texts++
			total += length
			for _, term := range terms {
				having[term.Text] = append(having[term.Text], row)
			}
		}
	}
	if st, e := k.Stats(); e != api.OK || st.Texts != texts || st.Total != total {
		t.Fatalf("%v: %v, %d; want %d, %d", x, st, e, texts, total)
	}
	for _, term := range []string{"ship", "boat", "two", "x", "long"} {
		l, e := k.Postings(term)
		var rows []int
		for _, q := range l {
			rows = append(rows, q.Row)
		}
		wantRows(t, "Postings of "+term, rows, e, having[term]...)
	}
}

func sign(a, b any) int {
	n, _ := layer5.Compare(a, b)
	return n
}

// begins holds the beginnings of two values' keys against one another, as much of them as an index may hold.
func begins(a, b any) int {
	k, _ := layer5.Key(a)
	l, _ := layer5.Key(b)
	return bytes.Compare(k[:min(len(k), 32)], l[:min(len(l), 32)])
}

// overlaps: does a shape's box overlap a rect?
func overlaps(v any, r api.Rect, points bool) bool {
	s, e := shape.Read(v)
	return e == api.OK && geom.Overlap(shape.Box(s), r) && (!points || s.Kind == shape.Spot)
}

// wantAmong wants all of some rows, in order, each once, and perhaps others, of those of which there may be more.
func wantAmong(t *testing.T, what string, rows []int, e api.Errno, all, may []int) {
	t.Helper()
	ok := e == api.OK && slices.IsSorted(rows) && len(slices.Compact(slices.Clone(rows))) == len(rows)
	for _, row := range all {
		ok = ok && slices.Contains(rows, row)
	}
	for _, row := range rows {
		ok = ok && slices.Contains(may, row)
	}
	if !ok {
		t.Fatalf("%s: %v, %d; want %v, perhaps %v", what, rows, e, all, may)
	}
}

// maker makes values by chance.
type maker struct{ *rand.Rand }

// number is one of a few, of whole degrees or near them.
func (r maker) number() json.Num { return json.Num((r.Intn(9)-4)*one + r.Intn(2)) }

func (r maker) text() string {
	return []string{"", "a", "The ships", "ship, two boats", "x x x", "long and longer, and so long that it begins alike", "long and longer, and so long that it begins alike, but ends another way", "two"}[r.Intn(8)]
}

func (r maker) place() any { return json.List{r.number(), r.number()} }

func (r maker) shape() any {
	kind := []string{"Point", "Point", "LineString", "Polygon"}[r.Intn(4)]
	for {
		v := json.Object{{Name: "type", Value: kind}, {Name: "coordinates"}}
		switch kind {
		case "Point":
			v[1].Value = r.place()
		case "LineString":
			v[1].Value = json.List{r.place(), r.place()}
		default:
			a := r.place()
			v[1].Value = json.List{json.List{a, r.place(), r.place(), a}}
		}
		if _, e := shape.Read(v); e == api.OK {
			return v
		}
	}
}

// value is one of all kinds, at most so deep (shapes are deeper).
func (r maker) value(deep int) any {
	switch n := r.Intn(14); {
	case n < 4:
		return r.number()
	case n < 8:
		return r.text()
	case n < 10:
		return r.shape()
	case n == 10:
		return r.Intn(2) == 0
	case n == 11 || deep == 0:
		return nil
	case n == 12:
		return json.List{r.value(deep - 1), r.value(deep - 1)}
	}
	return json.Object{{Name: "b", Value: r.value(deep - 1)}}
}

func (r maker) box() api.Rect {
	x, y := int64(r.number()), int64(r.number())
	return api.Rect{MinX: x, MinY: y, MaxX: x + int64(r.Intn(3)*one), MaxY: y + int64(r.Intn(3)*one)}
}

// name is one of a few.
func (r maker) name() any {
	if r.Intn(2) == 0 {
		return json.Num(r.Intn(20) * one)
	}
	return string(rune('a' + r.Intn(20)))
}

// doc is a document.
func (r maker) doc() json.Object {
	doc := json.Object{{Name: "_id", Value: r.name()}}
	for _, name := range []string{"a", "b", "c"} {
		if r.Intn(4) > 0 {
			doc = append(doc, json.Member{Name: name, Value: r.value(2)})
		}
	}
	r.Shuffle(len(doc), func(i, j int) { doc[i], doc[j] = doc[j], doc[i] })
	return doc
}

func (r maker) spec() sheet.Spec {
	return sheet.Spec{Kind: []string{"order", "cell", "spot", "text"}[r.Intn(4)], Path: []string{"a", "b", "c", "a.b", "a.1", "_id"}[r.Intn(6)]}
}

// do does something by chance with a sheet and its model.
func (m *model) do(t *testing.T, r maker, s *sheet.Sheet) {
	t.Helper()
	switch n := r.Intn(20); {
	case n < 8:
		doc := r.doc()
		if m.row(id(doc)) > 0 {
			want(t, "Insert", s.Insert(doc), api.ErrThere)
			return
		}
		want(t, "Insert", s.Insert(doc), api.OK)
		m.last++
		m.docs[m.last] = doc
	case n < 13:
		doc := r.doc()
		row := m.row(id(doc))
		if row == 0 {
			want(t, "Replace", s.Replace(doc), api.ErrNone)
			return
		}
		want(t, "Replace", s.Replace(doc), api.OK)
		m.docs[row] = doc
	case n < 17:
		name := r.name()
		row := m.row(name)
		if row == 0 {
			want(t, "Drop", s.Drop(name), api.ErrNone)
			return
		}
		want(t, "Drop", s.Drop(name), api.OK)
		delete(m.docs, row)
	case n < 19:
		x := r.spec()
		switch {
		case slices.Contains(m.specs, x):
			want(t, "AddIndex", s.AddIndex(x), api.ErrThere)
		case len(m.specs) == maxIndexes:
			want(t, "AddIndex", s.AddIndex(x), api.ErrLong)
		default:
			want(t, "AddIndex", s.AddIndex(x), api.OK)
			m.specs = append(m.specs, x)
		}
	default:
		x := r.spec()
		at := slices.Index(m.specs, x)
		if at < 0 {
			want(t, "DropIndex", s.DropIndex(x), api.ErrNone)
			return
		}
		want(t, "DropIndex", s.DropIndex(x), api.OK)
		m.specs = slices.Delete(m.specs, at, at+1)
	}
}

// TestSheetIsItsModel does by chance what may be done with a sheet: with commits, changes taken back, pools opened anew, disks that go down.
func TestSheetIsItsModel(t *testing.T) { // P23.1 to P23.5
	for turn := range 24 {
		r := maker{rand.New(rand.NewSource(int64(turn)))}
		p, d := formatted(t, 3000, []int{512, 600, 1024, 4096}[turn%4])
		s := made(t, p)
		now := model{docs: map[int]json.Object{}}
		var then model
		var told any
		commit := func() {
			want(t, "Commit", p.Commit(), api.OK)
			then, told = now.copied(), s.Tell()
		}
		commit()
		back := func(q *pool.Pool) {
			p, now = q, then.copied()
			s = open(t, p, told)
			if !json.Same(s.Tell(), told) {
				t.Fatalf("it tells %s, not %s", text(s.Tell()), text(told))
			}
		}
		for range 120 {
			switch n := r.Intn(40); n {
			case 0, 1, 2:
				commit()
			case 3:
				want(t, "Back", p.Back(), api.OK)
				back(p)
			case 4:
				back(reopened(t, d))
			case 5:
				commit()
				want(t, "Checkpoint", p.Checkpoint(), api.OK)
			case 6:
				d.Arm(1)
				if p.Commit() == api.ErrDown {
					back(reopened(t, d))
				} else { // nothing was to be committed
					then, told = now.copied(), s.Tell()
					d.Flush()
					back(reopened(t, d))
				}
			default:
				now.do(t, r, s)
			}
			now.same(t, r, s)
		}
		want(t, "Free", s.Free(), api.OK)
		if p.Taken() != 0 {
			t.Fatalf("%d pages are taken", p.Taken())
		}
	}
}

// TestSameSheet does the same twice, and wants the same of it, byte by byte.
func TestSameSheet(t *testing.T) { // R5
	pages := func() [][]byte {
		r := maker{rand.New(rand.NewSource(7))}
		p, _ := formatted(t, 3000, 512)
		s := made(t, p)
		m := model{docs: map[int]json.Object{}}
		for range 150 {
			m.do(t, r, s)
		}
		var l [][]byte
		for page := range p.Pages() {
			load, _ := p.Read(page)
			l = append(l, load)
		}
		return append(l, []byte(text(s.Tell())))
	}
	wants := pages()
	for range 5 {
		if !slices.EqualFunc(pages(), wants, bytes.Equal) {
			t.Fatal("other pages")
		}
	}
}
