package sheet_test

import (
	"fmt"
	"math"
	"reflect"
	"slices"
	"strings"
	"testing"

	"waywiser/api"
	"waywiser/disk"
	"waywiser/json"
	"waywiser/pool"
	"waywiser/sheet"
)

// The ends that the chapters name.
const (
	maxKey     = 64 // bytes of a name's key
	maxText    = 1 << 16
	maxIndexes = 8
	one        = 10000000 // a number's parts of one
)

func want(t *testing.T, what string, e, wants api.Errno) {
	t.Helper()
	if e != wants {
		t.Fatalf("%s tells %d, not %d", what, e, wants)
	}
}

// val is the value of a JSON text, in which ' stands for ".
func val(s string) any {
	v, e := json.Parse([]byte(strings.ReplaceAll(s, "'", `"`)))
	if e != api.OK {
		panic(s)
	}
	return v
}

// text is the plain text of a value.
func text(v any) string {
	b, _ := json.Print(v)
	return string(b)
}

// formatted is a blank pool on a disk of so many sectors.
func formatted(t *testing.T, sectors, size int) (*pool.Pool, *disk.Disk) {
	t.Helper()
	d := disk.New(sectors, size)
	p, e := pool.Format(d)
	want(t, "Format", e, api.OK)
	return p, d
}

// reopened is the pool of a disk, opened behind a crash in which nothing more was done.
func reopened(t *testing.T, d *disk.Disk) *pool.Pool {
	t.Helper()
	d.Crash(nil)
	p, e := pool.Open(d)
	want(t, "pool.Open", e, api.OK)
	return p
}

func made(t *testing.T, p *pool.Pool) *sheet.Sheet {
	t.Helper()
	s, e := sheet.Make(p)
	want(t, "Make", e, api.OK)
	return s
}

func open(t *testing.T, p *pool.Pool, v any) *sheet.Sheet {
	t.Helper()
	s, e := sheet.Open(p, v)
	want(t, "Open", e, api.OK)
	return s
}

func insert(t *testing.T, s *sheet.Sheet, docs ...string) {
	t.Helper()
	for _, doc := range docs {
		want(t, "Insert of "+doc, s.Insert(val(doc)), api.OK)
	}
}

func add(t *testing.T, s *sheet.Sheet, specs ...sheet.Spec) {
	t.Helper()
	for _, x := range specs {
		want(t, fmt.Sprint("AddIndex of ", x), s.AddIndex(x), api.OK)
	}
}

func order(path string) sheet.Spec { return sheet.Spec{Kind: "order", Path: path} }
func cell(path string) sheet.Spec  { return sheet.Spec{Kind: "cell", Path: path} }
func spot(path string) sheet.Spec  { return sheet.Spec{Kind: "spot", Path: path} }
func texts(path string) sheet.Spec { return sheet.Spec{Kind: "text", Path: path} }

// rect is that of whole degrees.
func rect(minX, minY, maxX, maxY int64) api.Rect {
	return api.Rect{MinX: minX * one, MinY: minY * one, MaxX: maxX * one, MaxY: maxY * one}
}

func wantRows(t *testing.T, what string, rows []int, e api.Errno, wants ...int) {
	t.Helper()
	if e != api.OK || !slices.Equal(rows, wants) {
		t.Fatalf("%s: %v, %d; want %v", what, rows, e, wants)
	}
}

func wantDoc(t *testing.T, what string, doc any, e api.Errno, wants string) {
	t.Helper()
	if e != api.OK || text(doc) != text(val(wants)) {
		t.Fatalf("%s: %s, %d; want %s", what, text(doc), e, wants)
	}
}

func TestExamples(t *testing.T) { // the chapter's, R7
	p, _ := formatted(t, 60, 512)
	s := made(t, p)
	insert(t, s, "{'_id':1,'n':5}")
	add(t, s, order("n"))
	rows, e := s.Between(order("n"), val("5"), val("5"))
	wantRows(t, "Between", rows, e, 1)
	want(t, "Insert", s.Insert(val("{'_id':[1]}")), api.ErrType)
	want(t, "Commit", p.Commit(), api.OK)
}

func TestRoom(t *testing.T) { // R7: a little of each kind on 60 sectors
	p, d := formatted(t, 60, 512)
	s := made(t, p)
	add(t, s, order("n"), cell("at"), spot("at"), texts("t"))
	want(t, "Commit", p.Commit(), api.OK)
	insert(t, s, "{'_id':1,'n':5,'at':{'type':'Point','coordinates':[1,2]},'t':'a ship'}")
	want(t, "Commit", p.Commit(), api.OK)
	insert(t, s, "{'_id':2,'n':6,'at':{'type':'Point','coordinates':[1,3]},'t':'two ships'}")
	want(t, "Commit", p.Commit(), api.OK)
	s = open(t, reopened(t, d), s.Tell())
	rows, e := s.Rows()
	wantRows(t, "Rows", rows, e, 1, 2)
}

func TestMay(t *testing.T) { // P23.1
	deep := strings.Repeat("[", 32) + strings.Repeat("]", 32)
	of := func(n int) json.Object { // whose plain text has so many bytes
		return json.Object{{Name: "_id", Value: json.Num(0)}, {Name: "t", Value: strings.Repeat("x", n-len(`{"_id":0,"t":""}`))}}
	}
	named := func(id any) json.Object { return json.Object{{Name: "_id", Value: id}} }
	for _, c := range []struct {
		doc   any
		wants api.Errno
	}{
		{val("{'_id':1}"), api.OK},
		{val("{'a':{'b':[null]},'_id':'x'}"), api.OK},
		{val("{'_id':''}"), api.OK},
		{val("{'_id':-0.5}"), api.OK},
		{val("{'_id':null}"), api.ErrType},
		{val("{'_id':true}"), api.ErrType},
		{val("{'_id':[1]}"), api.ErrType},
		{val("{'_id':{'_id':1}}"), api.ErrType},
		{val("{'a':{'_id':1}}"), api.ErrType},
		{val("{}"), api.ErrType},
		{val("[]"), api.ErrType},
		{val("'_id'"), api.ErrType},
		{nil, api.ErrType},
		{1, api.ErrType},
		{named(int64(1)), api.ErrType},
		{json.Object{{Name: "a", Value: 1}}, api.ErrType},
		{named(json.Num(math.MaxInt64)), api.ErrRange},
		{named("\xff"), api.ErrText},
		{json.Object{{Name: "a", Value: val(deep)}}, api.ErrDeep},
		{json.Object{{Name: "_id", Value: nil}, {Name: "_id", Value: nil}}, api.ErrTwice},
		{json.Object{{Name: "_id", Value: json.Num(1)}, {Name: "x", Value: json.Num(math.MinInt64)}}, api.ErrRange},
		// a key of a text has its bytes, one more for each 0, and three
		{named(strings.Repeat("x", maxKey-3)), api.OK},
		{named(strings.Repeat("x", maxKey-2)), api.ErrLong},
		{named("\x00" + strings.Repeat("x", maxKey-5)), api.OK},
		{named("\x00" + strings.Repeat("x", maxKey-4)), api.ErrLong},
		{of(maxText), api.OK},
		{of(maxText + 1), api.ErrLong},
		{append(of(2*maxText), json.Member{Name: "y", Value: 1}), api.ErrType},
		{append(of(2 * maxText)[1:], json.Member{Name: "_id", Value: val("[]")}), api.ErrType},
	} {
		name := text(c.doc)
		name = name[:min(len(name), 100)]
		want(t, "May of "+name, sheet.May(c.doc), c.wants)
		p, _ := formatted(t, 1000, 512)
		s := made(t, p)
		want(t, "Insert of "+name, s.Insert(c.doc), c.wants)
		n := s.Count()
		if c.wants == api.OK {
			want(t, "Insert once more", s.Insert(c.doc), api.ErrThere)
			want(t, "Replace of "+name, s.Replace(c.doc), api.OK)
			n--
		} else {
			want(t, "Replace of "+name, s.Replace(c.doc), c.wants)
		}
		if n != 0 {
			t.Fatalf("%s counts for %d", name, n)
		}
	}
}

func TestDocuments(t *testing.T) { // P23.2
	p, _ := formatted(t, 400, 512)
	s := made(t, p)
	if rows, e := s.Rows(); len(rows) != 0 || e != api.OK || s.Count() != 0 {
		t.Fatal("an empty sheet has rows")
	}
	want(t, "Replace of none", s.Replace(val("{'_id':1}")), api.ErrNone)
	want(t, "Drop of none", s.Drop(val("1")), api.ErrNone)
	insert(t, s, "{'_id':'b','n':1}", "{'_id':2,'n':2}", "{'_id':10,'n':3}", "{'_id':'a','n':4}", "{'_id':-1,'n':5}")
	rows, e := s.Rows()
	wantRows(t, "Rows", rows, e, 5, 2, 3, 4, 1)
	want(t, "Insert of one that is there", s.Insert(val("{'n':9,'_id':10}")), api.ErrThere)
	doc, e := s.Get(val("10"))
	wantDoc(t, "Get behind it", doc, e, "{'_id':10,'n':3}")

	want(t, "Replace", s.Replace(val("{'n':[9],'_id':10}")), api.OK)
	doc, e = s.Get(val("10"))
	wantDoc(t, "Get", doc, e, "{'n':[9],'_id':10}")
	doc, e = s.Row(3)
	wantDoc(t, "Row", doc, e, "{'n':[9],'_id':10}")

	want(t, "Drop", s.Drop(val("-1")), api.OK)
	want(t, "Drop once more", s.Drop(val("-1")), api.ErrNone)
	want(t, "Replace of what was dropped", s.Replace(val("{'_id':-1}")), api.ErrNone)
	if s.Count() != 4 {
		t.Fatalf("Count: %d", s.Count())
	}
	insert(t, s, "{'_id':-1,'n':6}") // it has not the row that it had
	rows, e = s.Rows()
	wantRows(t, "Rows", rows, e, 6, 2, 3, 4, 1)
	for _, row := range []int{5, 0, -1, 7, math.MaxInt, math.MinInt} {
		if doc, e := s.Row(row); doc != nil || e != api.ErrNone {
			t.Errorf("Row(%d): %v, %d", row, doc, e)
		}
	}
	for _, id := range []any{nil, true, val("[]"), val("{}"), 2, int64(2), json.Num(math.MaxInt64), "\xff", strings.Repeat("x", 100), "c", json.Num(2)} {
		if doc, e := s.Get(id); doc != nil || e != api.ErrNone {
			t.Errorf("Get(%v): %v, %d", id, doc, e)
		}
		want(t, fmt.Sprint("Drop of ", id), s.Drop(id), api.ErrNone)
	}
}

func TestNameOfOtherForm(t *testing.T) { // P23.2: 1.0 and 1 are one name, 1 and "1" are two
	p, _ := formatted(t, 400, 512)
	s := made(t, p)
	insert(t, s, "{'_id':1}", "{'_id':'1'}", "{'_id':''}")
	want(t, "Insert", s.Insert(val("{'_id':1.0}")), api.ErrThere)
	rows, e := s.Rows()
	wantRows(t, "Rows", rows, e, 1, 3, 2)
}

func TestIndexes(t *testing.T) { // P23.3
	p, _ := formatted(t, 400, 512)
	s := made(t, p)
	insert(t, s, "{'_id':1,'a':1}")
	for _, x := range []struct {
		spec  sheet.Spec
		wants api.Errno
	}{
		{sheet.Spec{}, api.ErrName},
		{sheet.Spec{Kind: "Order", Path: "a"}, api.ErrName},
		{sheet.Spec{Kind: "scan", Path: ""}, api.ErrName},
		{order(""), api.ErrPath},
		{order("a..b"), api.ErrPath},
		{order("a."), api.ErrPath},
		{order("\xff"), api.ErrPath},
		{order(strings.Repeat("x", 129)), api.ErrPath},
		{order("a"), api.OK},
		{order("a"), api.ErrThere},
		{texts("a"), api.OK},
		{spot("a"), api.OK},
		{cell("a"), api.OK},
		{order(strings.Repeat("x", 128)), api.OK},
		{order("b"), api.OK},
		{spot("b"), api.OK},
		{order("$c"), api.OK},
		{order("d"), api.ErrLong},
		{order("a"), api.ErrThere},
		{order(""), api.ErrPath},
		{sheet.Spec{Kind: "x", Path: "a"}, api.ErrName},
	} {
		n := len(s.Indexes())
		want(t, fmt.Sprint("AddIndex of ", x.spec), s.AddIndex(x.spec), x.wants)
		if l := s.Indexes(); x.wants == api.OK && (len(l) != n+1 || l[n] != x.spec) || x.wants != api.OK && len(l) != n {
			t.Fatalf("Indexes: %v", l)
		}
	}
	if len(s.Indexes()) != maxIndexes {
		t.Fatal("not so many")
	}
	want(t, "DropIndex of none", s.DropIndex(order("d")), api.ErrNone)
	want(t, "DropIndex of no kind", s.DropIndex(sheet.Spec{Kind: "x", Path: "a"}), api.ErrNone)
	want(t, "DropIndex", s.DropIndex(texts("a")), api.OK)
	want(t, "DropIndex once more", s.DropIndex(texts("a")), api.ErrNone)
	add(t, s, order("d"))
	wants := []sheet.Spec{order("a"), spot("a"), cell("a"), order(strings.Repeat("x", 128)), order("b"), spot("b"), order("$c"), order("d")}
	if !slices.Equal(s.Indexes(), wants) {
		t.Fatalf("Indexes: %v", s.Indexes())
	}
	for _, x := range wants {
		want(t, "DropIndex", s.DropIndex(x), api.OK)
	}
	if len(s.Indexes()) != 0 {
		t.Fatal("still there")
	}
}

func TestBetween(t *testing.T) { // P23.4
	p, _ := formatted(t, 1000, 512)
	s := made(t, p)
	insert(t, s, "{'_id':1,'n':5}", "{'_id':2,'n':'x'}", "{'_id':3}", "{'_id':4,'n':null}", "{'_id':5,'n':-5}")
	add(t, s, order("n"), order("n.1"), order("_id"))
	insert(t, s, "{'_id':6,'n':[5,6]}", "{'_id':7,'n':{}}", "{'_id':8,'n':5}", "{'_id':9,'n':true}")
	for _, c := range []struct {
		low, high string
		rows      []int
	}{
		{"5", "5", []int{1, 8}},
		{"-5", "5", []int{1, 5, 8}},
		{"-4.9", "4.9", nil},
		{"5", "-5", nil},
		{"null", "null", []int{4}},
		{"null", "{}", []int{1, 2, 4, 5, 6, 7, 8, 9}},
		{"false", "true", []int{9}},
		{"false", "'x'", []int{1, 2, 5, 8, 9}},
		{"''", "'w'", nil},
		{"[5]", "[6]", []int{6}},
		{"[]", "[5]", nil},
		{"{}", "{'a':1}", []int{7}},
		{"{'a':1}", "null", nil},
	} {
		rows, e := s.Between(order("n"), val(c.low), val(c.high))
		wantRows(t, "Between "+c.low+" and "+c.high, rows, e, c.rows...)
	}
	rows, e := s.Between(order("n.1"), nil, val("{}"))
	wantRows(t, "Between of an item", rows, e, 6)
	rows, e = s.Between(order("_id"), val("2"), val("4"))
	wantRows(t, "Between of the name", rows, e, 2, 3, 4)

	for _, bad := range []struct {
		v     any
		wants api.Errno
	}{{1, api.ErrType}, {json.Num(math.MinInt64), api.ErrRange}, {json.List{"\xff"}, api.ErrText}} {
		if rows, e := s.Between(order("n"), bad.v, nil); rows != nil || e != bad.wants {
			t.Errorf("Between from %v: %v, %d", bad.v, rows, e)
		}
		if rows, e := s.Between(order("n"), nil, bad.v); rows != nil || e != bad.wants {
			t.Errorf("Between to %v: %v, %d", bad.v, rows, e)
		}
		if _, e := s.Between(order("n"), bad.v, 1.5); e != bad.wants {
			t.Errorf("low is told first: %d", e)
		}
		if _, e := s.Between(order("x"), bad.v, nil); e != api.ErrNone {
			t.Errorf("that there is none is told first: %d", e)
		}
	}
}

func TestBetweenOfLongValues(t *testing.T) { // P23.4: values that begin alike over many bytes, also at the ends of a tree's key
	p, _ := formatted(t, 3000, 512)
	s := made(t, p)
	add(t, s, order("n"))
	var docs []string
	for _, n := range []int{0, 1, 40, 50, 51, 52, 53, 54, 55, 56, 57, 58, 59, 60, 61, 62, 63, 64, 65, 200, 60000} {
		for _, end := range []string{"", "!", "~"} {
			docs = append(docs, strings.Repeat("x", n)+end)
		}
	}
	docs = append(docs, "\x00", "\x00\x00", strings.Repeat("\x00", 30), strings.Repeat("\x00", 26)+"\x01", strings.Repeat("\x00", 27)+"\x01")
	docs = slices.Compact(slices.Sorted(slices.Values(docs)))
	for i, x := range docs {
		want(t, "Insert", s.Insert(json.Object{{Name: "_id", Value: json.Num(i * one)}, {Name: "n", Value: x}}), api.OK)
	}
	for i := range docs {
		for j := range docs {
			rows, e := s.Between(order("n"), docs[i], docs[j])
			want(t, "Between", e, api.OK)
			if !slices.IsSorted(rows) || len(slices.Compact(slices.Clone(rows))) != len(rows) {
				t.Fatal("not in order, or twice", rows)
			}
			for k := i; k <= j; k++ {
				if !slices.Contains(rows, k+1) {
					t.Fatalf("between %q and %q is %q", docs[i][:min(70, len(docs[i]))], docs[j][:min(70, len(docs[j]))], docs[k][:min(70, len(docs[k]))])
				}
			}
		}
	}
	for i := range docs {
		want(t, "Drop", s.Drop(json.Num(i*one)), api.OK)
	}
	rows, e := s.Between(order("n"), nil, val("{}"))
	wantRows(t, "Between", rows, e)
}

const square = "{'type':'Polygon','coordinates':[[[0,0],[4,0],[4,4],[0,4],[0,0]]]}"

// at is the text of a point's value.
func at(x, y int) string { return fmt.Sprintf("{'type':'Point','coordinates':[%d,%d]}", x, y) }

func TestBox(t *testing.T) { // P23.4
	p, _ := formatted(t, 1000, 512)
	s := made(t, p)
	insert(t, s, "{'_id':1,'at':"+at(1, 1)+"}", "{'_id':2,'at':"+square+"}")
	add(t, s, spot("at"), cell("at"))
	insert(t, s, "{'_id':3,'at':"+at(-180, -90)+"}", "{'_id':4,'at':"+at(180, 90)+"}", "{'_id':5,'at':[1,1]}", "{'_id':6,'at':{'type':'LineString','coordinates':[[0,0],[9,9]]}}", "{'_id':7}")
	for _, c := range []struct {
		r            api.Rect
		spots, cells []int
	}{
		{rect(1, 1, 1, 1), []int{1, 2, 6}, []int{1}},
		{rect(5, 2, 9, 3), []int{6}, nil}, // the line's box, not the line
		{rect(4, 4, 5, 5), []int{2, 6}, nil},
		{rect(-180, -90, 180, 90), []int{1, 2, 3, 4, 6}, []int{1, 3, 4}},
		{rect(-180, -90, -180, -90), []int{3}, []int{3}},
		{rect(180, 90, 180, 90), []int{4}, []int{4}},
		{rect(20, 20, 30, 30), nil, nil},
		{rect(2, 2, 1, 3), nil, nil},
		{rect(-181, -90, 180, 90), nil, nil},
		{rect(0, 0, 0, 91), nil, nil},
	} {
		rows, e := s.Box(spot("at"), c.r)
		wantRows(t, fmt.Sprint("Box of spots ", c.r), rows, e, c.spots...)
		rows, e = s.Box(cell("at"), c.r)
		want(t, "Box of cells", e, api.OK)
		for _, row := range c.cells {
			if !slices.Contains(rows, row) {
				t.Errorf("Box of cells %v has not %d", c.r, row)
			}
		}
		for _, row := range rows {
			if !slices.Contains([]int{1, 3, 4}, row) {
				t.Errorf("Box of cells %v has %d", c.r, row)
			}
		}
		if !slices.IsSorted(rows) || len(c.spots) == 0 && len(rows) > 0 && c.r.MaxX <= 2*one {
			t.Errorf("Box of cells %v: %v", c.r, rows)
		}
	}
}

func TestNear(t *testing.T) { // P23.4
	p, _ := formatted(t, 1000, 512)
	s := made(t, p)
	insert(t, s, "{'_id':1,'at':"+at(9, 9)+"}", "{'_id':2,'at':"+square+"}", "{'_id':3,'at':"+at(5, 4)+"}", "{'_id':4}", "{'_id':5,'at':"+at(4, 5)+"}")
	add(t, s, spot("at"))
	insert(t, s, "{'_id':6,'at':"+at(1, 1)+"}", "{'_id':7,'at':"+at(4, 5)+"}")
	near := func(x, y int64, most int, wants ...int) {
		t.Helper()
		rows, e := s.Near(spot("at"), api.Point{X: x * one, Y: y * one}, most)
		wantRows(t, fmt.Sprint("Near ", x, y, most), rows, e, wants...)
	}
	near(1, 1, 9, 2, 6, 3, 5, 7, 1) // in the square it is 0 away; what is as far is told by the row
	near(9, 9, 9, 1, 3, 5, 7, 2, 6)
	near(9, 9, 3, 1, 3, 5)
	near(9, 9, math.MaxInt, 1, 3, 5, 7, 2, 6)
	near(9, 9, 0)
	near(9, 9, -1)
	near(181, 0, 9)
	near(0, -91, 9)
}

func TestText(t *testing.T) { // P23.4
	p, _ := formatted(t, 1000, 512)
	s := made(t, p)
	insert(t, s, "{'_id':1,'t':'A ship'}", "{'_id':2,'t':['ship']}", "{'_id':3,'t':''}", "{'_id':4}")
	add(t, s, texts("t"), texts("t.0"))
	insert(t, s, "{'_id':5,'t':'ships, ships'}")
	want(t, "Replace", s.Replace(val("{'_id':1,'t':'The old ship'}")), api.OK)
	x, e := s.Text(texts("t"))
	want(t, "Text", e, api.OK)
	if st, e := x.Stats(); st.Texts != 3 || st.Total != 5 || e != api.OK {
		t.Errorf("Stats: %v, %d", st, e)
	}
	l, e := x.Postings("ship")
	if e != api.OK || len(l) != 2 || l[0].Row != 1 || l[0].Length != 3 || l[1].Row != 5 || !slices.Equal(l[1].At, []int{0, 1}) {
		t.Errorf("Postings: %v, %d", l, e)
	}
	x, e = s.Text(texts("t.0"))
	want(t, "Text", e, api.OK)
	if n, e := x.Count("ship"); n != 1 || e != api.OK {
		t.Errorf("Count: %d, %d", n, e)
	}
	want(t, "Drop", s.Drop(val("2")), api.OK)
	if n, e := x.Count("ship"); n != 0 || e != api.OK {
		t.Errorf("Count behind Drop: %d, %d", n, e)
	}
}

func TestKindsApart(t *testing.T) { // P23.4: each is asked of its own kind alone
	p, _ := formatted(t, 1000, 512)
	s := made(t, p)
	insert(t, s, "{'_id':1,'a':1}")
	specs := []sheet.Spec{order("a"), cell("a"), spot("a"), texts("a")}
	add(t, s, specs...)
	for i, x := range append(specs, order("b"), cell("b"), spot("b"), texts("b"), sheet.Spec{}, sheet.Spec{Kind: "x", Path: "a"}) {
		of := func(kinds ...int) api.Errno {
			if slices.Contains(kinds, i) {
				return api.OK
			}
			return api.ErrNone
		}
		rows, e := s.Between(x, nil, nil)
		want(t, fmt.Sprint("Between of ", x), e, of(0))
		more, e := s.Box(x, api.Rect{})
		want(t, fmt.Sprint("Box of ", x), e, of(1, 2))
		near, e := s.Near(x, api.Point{}, 1)
		want(t, fmt.Sprint("Near of ", x), e, of(2))
		index, e := s.Text(x)
		want(t, fmt.Sprint("Text of ", x), e, of(3))
		if len(rows)+len(more)+len(near) > 0 || (index == nil) != (i != 3) {
			t.Errorf("%v tells more", x)
		}
	}
}

func TestNil(t *testing.T) { // P23.1, P23.4
	s, e := sheet.Make(nil)
	if s != nil || e != api.ErrArg {
		t.Fatal("Make", s, e)
	}
	for _, v := range []any{nil, json.List{}} {
		if s, e := sheet.Open(nil, v); s != nil || e != api.ErrArg {
			t.Fatal("Open", s, e)
		}
	}
	doc := val("{'_id':1}")
	for i, e := range []api.Errno{s.Insert(doc), s.Insert(nil), s.Replace(doc), s.Replace(nil), s.Drop(nil), s.AddIndex(order("a")), s.AddIndex(sheet.Spec{}), s.DropIndex(order("a")), s.Free()} {
		want(t, fmt.Sprint(i), e, api.ErrArg)
	}
	for i, call := range []func() (any, api.Errno){
		func() (any, api.Errno) { return s.Get(json.Num(0)) },
		func() (any, api.Errno) { return s.Row(1) },
		func() (any, api.Errno) { return s.Rows() },
		func() (any, api.Errno) { return s.Between(order("a"), 1, nil) },
		func() (any, api.Errno) { return s.Box(spot("a"), api.Rect{}) },
		func() (any, api.Errno) { return s.Near(spot("a"), api.Point{}, 1) },
		func() (any, api.Errno) { return s.Text(texts("a")) },
	} {
		x, e := call()
		if v := reflect.ValueOf(x); e != api.ErrArg || x != nil && !v.IsNil() {
			t.Errorf("%d: %v, %d", i, x, e)
		}
	}
	if s.Tell() != nil || s.Count() != 0 || s.Indexes() != nil {
		t.Error("nil tells something")
	}
}

func TestOpen(t *testing.T) { // P23.1, P23.5
	p, d := formatted(t, 400, 512)
	s := made(t, p)
	empty := s.Tell()
	if s := open(t, p, empty); s.Count() != 0 || len(s.Indexes()) != 0 {
		t.Fatal("not empty")
	}
	insert(t, s, "{'_id':1,'n':1}", "{'_id':2,'n':2}", "{'_id':3,'n':3}")
	add(t, s, order("n"), texts("t"))
	want(t, "Drop", s.Drop(val("3")), api.OK)
	told := s.Tell()
	if json.May(told) != api.OK || json.Same(told, empty) {
		t.Fatalf("Tell: %s", text(told))
	}
	want(t, "Commit", p.Commit(), api.OK)
	p = reopened(t, d)
	s = open(t, p, told)
	if s.Count() != 2 || !json.Same(s.Tell(), told) || !slices.Equal(s.Indexes(), []sheet.Spec{order("n"), texts("t")}) {
		t.Fatalf("it is another one: %s", text(s.Tell()))
	}
	insert(t, s, "{'_id':3,'n':3}") // its row is not that of the one that was dropped
	rows, e := s.Between(order("n"), val("2"), val("3"))
	wantRows(t, "Between", rows, e, 2, 4)
}

func TestOpenOfOther(t *testing.T) { // P23.1: what no sheet told of itself
	p, _ := formatted(t, 400, 512)
	s := made(t, p)
	add(t, s, order("n"), cell("n"))
	told := s.Tell()
	taken := p.Taken()
	bad := []any{nil, true, json.Num(0), "x", json.List{}, json.Object{}, 7, val("[1]"), val("[1,2,0,0]"), val("{'names':1}")}
	for _, v := range variants(told) {
		bad = append(bad, v)
	}
	for _, v := range bad {
		if s, e := sheet.Open(p, v); s != nil || e != api.ErrForm {
			t.Errorf("Open by %s (%T): %v, %d", text(v), v, s, e)
		}
	}
	if p.Taken() != taken {
		t.Error("pages were taken or given back")
	}
}

// variants are values that have, in some place within, another value in the place of what a sheet told: of another kind, or one that can't be.
func variants(v any) []any {
	l, is := v.(json.List)
	if !is {
		switch v.(type) {
		case json.Num:
			return []any{nil, "1", json.List{}, 1, json.Num(-one), json.Num(5), json.Num(1<<40*one/(1<<20)*(1<<10) + 1)}
		case string:
			return []any{nil, json.Num(one), "", "\xff", "x..y"}
		}
		return nil
	}
	out := []any{nil, "x", append(slices.Clone(l), nil), append(slices.Clone(l), json.Num(one)), append(slices.Clone(l), l...)}
	if len(l) > 0 && len(l) != 2 {
		out = append(out, l[:len(l)-1:len(l)-1])
	}
	for i, x := range l {
		for _, y := range variants(x) {
			m := slices.Clone(l)
			m[i] = y
			out = append(out, m)
		}
	}
	return out
}

func TestFree(t *testing.T) { // P23.3
	p, _ := formatted(t, 3000, 512)
	other := made(t, p)
	insert(t, other, "{'_id':'other'}")
	taken := p.Taken()
	s := made(t, p)
	add(t, s, order("n"), cell("at"), spot("at"), texts("t"))
	for i := range 60 {
		insert(t, s, fmt.Sprintf("{'_id':%d,'n':%d,'at':%s,'t':'ship number %d, %s'}", i, i%7, at(i, i%9), i, strings.Repeat("long ", 40)))
	}
	grown := p.Taken()
	for _, x := range s.Indexes() {
		want(t, "DropIndex", s.DropIndex(x), api.OK)
		if p.Taken() >= grown {
			t.Errorf("no page of %v was given back", x)
		}
		grown = p.Taken()
	}
	add(t, s, order("n"), cell("at"), spot("at"), texts("t"))
	want(t, "Free", s.Free(), api.OK)
	if p.Taken() != taken {
		t.Errorf("%d pages are taken, not %d", p.Taken(), taken)
	}
	doc, e := other.Get("other")
	wantDoc(t, "Get of another sheet", doc, e, "{'_id':'other'}")
}

func TestEmptyAgain(t *testing.T) { // P23.5: of what was dropped nothing is left in the indexes
	p, _ := formatted(t, 3000, 512)
	s := made(t, p)
	add(t, s, order("n"), cell("at"), spot("at"), texts("t"))
	taken := p.Taken()
	for i := range 40 {
		insert(t, s, fmt.Sprintf("{'_id':%d,'n':%d,'at':%s,'t':'ship number %d, %s'}", i, i%7, at(i, i%9), i, strings.Repeat("long ", 40)))
	}
	for i := range 40 {
		want(t, "Replace", s.Replace(val(fmt.Sprintf("{'_id':%d,'n':[%d],'at':%s,'t':'boat'}", i, i%3, square))), api.OK)
	}
	for i := range 40 {
		want(t, "Drop", s.Drop(json.Num(i*7%40*one)), api.OK)
	}
	if p.Taken() != taken {
		t.Errorf("%d pages are taken, not %d", p.Taken(), taken)
	}
}

func TestMemory(t *testing.T) { // R4
	p, _ := formatted(t, 400, 512)
	s := made(t, p)
	doc := val("{'_id':1,'l':[1,2]}").(json.Object)
	room := append(doc, json.Member{Name: "room", Value: "kept"})
	want(t, "Insert", s.Insert(room[:2]), api.OK)
	if room[2].Value != "kept" {
		t.Error("room behind was changed")
	}
	doc[1].Value.(json.List)[0] = "changed"
	for range 2 {
		got, e := s.Get(json.Num(one))
		wantDoc(t, "Get", got, e, "{'_id':1,'l':[1,2]}")
		got.(json.Object)[1].Value.(json.List)[0] = "changed"
	}
	want(t, "Replace", s.Replace(doc), api.OK)
	doc[0].Value = "changed"
	got, e := s.Row(1)
	wantDoc(t, "Row", got, e, "{'_id':1,'l':['changed',2]}")

	add(t, s, order("l"), order("_id"))
	for range 2 {
		l := s.Indexes()
		if !slices.Equal(l, []sheet.Spec{order("l"), order("_id")}) {
			t.Fatal("Indexes share memory")
		}
		l[0] = sheet.Spec{}
		told := s.Tell().(json.List)
		open(t, p, told)
		told[0] = nil
		rows, _ := s.Rows()
		wantRows(t, "Rows", rows, e, 1)
		rows[0] = 5
	}
	told := s.Tell().(json.List)
	other := open(t, p, told)
	told[len(told)-1].(json.List)[0].(json.List)[1] = "changed"
	if other.Indexes()[0] != order("l") {
		t.Error("what was handed in is kept")
	}
}

func TestFull(t *testing.T) { // the pool's errors
	p, d := formatted(t, 60, 512)
	s := made(t, p)
	insert(t, s, "{'_id':1,'t':'a ship'}")
	add(t, s, texts("t"))
	told := s.Tell()
	want(t, "Commit", p.Commit(), api.OK)
	taken := p.Taken()
	long := json.Object{{Name: "_id", Value: json.Num(2 * one)}, {Name: "t", Value: strings.Repeat("x ", 20000)}}
	want(t, "Insert", s.Insert(long), api.ErrFull)
	s = open(t, p, told)
	if p.Taken() != taken || s.Count() != 1 {
		t.Errorf("%d pages are taken, not %d", p.Taken(), taken)
	}
	long[0].Value = json.Num(one)
	want(t, "Replace", s.Replace(long), api.ErrFull)
	s = open(t, p, told)
	doc, e := s.Get(json.Num(one))
	wantDoc(t, "Get", doc, e, "{'_id':1,'t':'a ship'}")
	for {
		if _, e := p.Take(); e != api.OK {
			break
		}
	}
	want(t, "AddIndex", s.AddIndex(spot("at")), api.ErrFull)
	s = open(t, p, told)
	if p.Taken() != taken || len(s.Indexes()) != 1 {
		t.Errorf("%d pages are taken, not %d", p.Taken(), taken)
	}
	for {
		if _, e := p.Take(); e != api.OK {
			break
		}
	}
	if s, e := sheet.Make(p); s != nil || e != api.ErrFull || p.Taken() != taken {
		t.Errorf("Make: %v, %d", s, e)
	}
	insert(t, open(t, p, told), "{'_id':3}")
	want(t, "Commit", p.Commit(), api.OK)
	s = open(t, reopened(t, d), told)
}

func TestFullIndex(t *testing.T) { // the pool's errors: there is room for a document, but not for its words
	p, _ := formatted(t, 60, 512)
	s := made(t, p)
	var b strings.Builder
	for i := range 800 {
		fmt.Fprint(&b, " w", i)
	}
	doc := json.Object{{Name: "_id", Value: json.Num(one)}, {Name: "t", Value: b.String()}}
	want(t, "Insert", s.Insert(doc), api.OK)
	told := s.Tell()
	want(t, "Commit", p.Commit(), api.OK)
	taken := p.Taken()
	want(t, "AddIndex", s.AddIndex(texts("t")), api.ErrFull)
	if p.Taken() != taken {
		t.Errorf("%d pages are taken, not %d", p.Taken(), taken)
	}
	s = open(t, p, told)
	want(t, "Drop", s.Drop(json.Num(one)), api.OK)
	add(t, s, texts("t"))
	told = s.Tell()
	want(t, "Commit", p.Commit(), api.OK)
	want(t, "Insert", s.Insert(doc), api.ErrFull)
	s = open(t, p, told)
	insert(t, s, "{'_id':1,'t':'w'}")
	want(t, "Replace", s.Replace(doc), api.ErrFull)
}

func TestDownBehindMemory(t *testing.T) { // the pool's errors: documents are in memory, an index is on the disk
	p, d := formatted(t, 1000, 512)
	s := made(t, p)
	insert(t, s, "{'_id':1,'at':"+at(1, 2)+"}")
	add(t, s, spot("at"), cell("at"))
	want(t, "Commit", p.Commit(), api.OK)
	want(t, "Checkpoint", p.Checkpoint(), api.OK)
	insert(t, s, "{'_id':2}")
	d.Arm(1)
	d.Flush()
	want(t, "Get", s.Insert(val("{'_id':3,'at':"+at(1, 1)+"}")), api.ErrDown)
	if s.Count() != 2 {
		t.Errorf("%d documents", s.Count())
	}
	p = reopened(t, d)
	s = made(t, p)
	insert(t, s, "{'_id':1,'at':"+at(1, 2)+"}")
	add(t, s, spot("at"), cell("at"))
	want(t, "Commit", p.Commit(), api.OK)
	want(t, "Checkpoint", p.Checkpoint(), api.OK)
	insert(t, s, "{'_id':2}")
	d.Arm(1)
	d.Flush()
	want(t, "Drop", s.Drop(json.Num(one)), api.ErrDown)
	if s.Count() != 2 {
		t.Errorf("%d documents", s.Count())
	}
}

func TestMakeHalves(t *testing.T) { // P23.1: one page is left, and it needs more
	p, _ := formatted(t, 60, 512)
	for p.Taken() < p.Pages()-2 {
		p.Take()
	}
	want(t, "Commit", p.Commit(), api.ErrFull) // too many for the log
	for p.Taken() < p.Pages()-2 {
		p.Take()
		if p.Taken()%5 == 0 {
			want(t, "Commit", p.Commit(), api.OK)
		}
	}
	want(t, "Commit", p.Commit(), api.OK)
	taken := p.Taken()
	if s, e := sheet.Make(p); s != nil || e != api.ErrFull || p.Taken() != taken {
		t.Errorf("Make: %v, %d; %d pages are taken, not %d", s, e, p.Taken(), taken)
	}
}

func TestDown(t *testing.T) { // the pool's errors
	for _, all := range []bool{false, true} {
		p, d := formatted(t, 1000, 512)
		s := made(t, p)
		for i := range 20 {
			insert(t, s, fmt.Sprintf("{'_id':%d,'n':%d,'at':%s,'t':'ship %d'}", i, i, at(i, i), i))
		}
		add(t, s, order("n"), cell("at"), spot("at"), texts("t"))
		told := s.Tell()
		want(t, "Commit", p.Commit(), api.OK)
		want(t, "Checkpoint", p.Checkpoint(), api.OK)
		if d.Arm(1); all { // the pool itself does not know of it yet
			d.Flush()
		} else {
			p.SetRoot(0, 1)
			want(t, "Commit", p.Commit(), api.ErrDown)
		}
		doc := val("{'_id':100,'n':1,'at':" + at(1, 2) + ",'t':'boat'}")
		replaced := val("{'_id':1,'n':9}")
		for i, call := range []func() (any, api.Errno){
			func() (any, api.Errno) { return nil, s.Insert(doc) },
			func() (any, api.Errno) { return nil, s.Replace(replaced) },
			func() (any, api.Errno) { return nil, s.Drop(json.Num(one)) },
			func() (any, api.Errno) { return s.Get(json.Num(one)) },
			func() (any, api.Errno) { return s.Row(1) },
			func() (any, api.Errno) { return s.Rows() },
			func() (any, api.Errno) { return s.Between(order("n"), json.Num(0), json.Num(9*one)) },
			func() (any, api.Errno) { return s.Box(cell("at"), rect(0, 0, 9, 9)) },
			func() (any, api.Errno) { return s.Box(spot("at"), rect(0, 0, 9, 9)) },
			func() (any, api.Errno) { return s.Near(spot("at"), api.Point{}, 3) },
			func() (any, api.Errno) { return nil, s.AddIndex(order("x")) },
			func() (any, api.Errno) { return nil, s.DropIndex(order("n")) },
			func() (any, api.Errno) { return sheet.Open(p, told) },
			func() (any, api.Errno) { return nil, s.Free() },
		} {
			x, e := call()
			if v := reflect.ValueOf(x); e != api.ErrDown || x != nil && !v.IsNil() {
				t.Errorf("%d: %v, %d", i, x, e)
			}
		}
		if s, e := sheet.Make(p); s != nil || e != api.ErrState {
			t.Errorf("Make: %v, %d", s, e)
		}
		want(t, "Insert of what may not be", s.Insert(val("{}")), api.ErrType)
		want(t, "Drop of what may be no name", s.Drop(val("{}")), api.ErrNone)
		for _, row := range []int{-1, 0, 21} {
			if doc, e := s.Row(row); doc != nil || e != api.ErrNone {
				t.Errorf("Row %d: %v, %d", row, doc, e)
			}
		}
		if s.Count() != 20 || len(s.Indexes()) != 4 || !json.Same(s.Tell(), told) {
			t.Errorf("it tells of itself %s", text(s.Tell()))
		}
		s = open(t, reopened(t, d), told)
		got, e := s.Get(json.Num(one))
		wantDoc(t, "Get", got, e, "{'_id':1,'n':1,'at':"+at(1, 1)+",'t':'ship 1'}")
	}
}

func TestDead(t *testing.T) { // the pool's errors: pages are in memory, but nothing can be changed
	p, d := formatted(t, 400, 512)
	s := made(t, p)
	insert(t, s, "{'_id':1,'n':1}")
	add(t, s, order("n"))
	want(t, "Commit", p.Commit(), api.OK)
	d.Arm(1)
	want(t, "Checkpoint", p.Checkpoint(), api.ErrDown)
	taken := p.Taken()
	for i, e := range []api.Errno{s.Insert(val("{'_id':2,'n':2}")), s.Replace(val("{'_id':1,'n':2}")), s.Drop(json.Num(one)), s.AddIndex(order("x")), s.DropIndex(order("n")), s.Free()} {
		want(t, fmt.Sprint(i), e, api.ErrState)
	}
	doc, e := s.Get(json.Num(one))
	wantDoc(t, "Get", doc, e, "{'_id':1,'n':1}")
	rows, e := s.Between(order("n"), json.Num(one), json.Num(one))
	wantRows(t, "Between", rows, e, 1)
	if p.Taken() != taken || s.Count() != 1 || len(s.Indexes()) != 1 {
		t.Error("something was changed")
	}
}
