package plan_test

import (
	"fmt"
	"math"
	"slices"
	"strconv"
	"strings"
	"testing"

	"waywiser/api"
	"waywiser/disk"
	"waywiser/json"
	"waywiser/plan"
	"waywiser/pool"
	"waywiser/sheet"
)

const one = 10000000 // a number's parts of one

func want(t *testing.T, what string, e, wants api.Errno) {
	t.Helper()
	if e != wants {
		t.Fatalf("%s tells %d, not %d", what, e, wants)
	}
}

// val is the value of a JSON text, in which ' stands for ".
func val(s string) any {
	v, e := json.Parse([]byte(strings.ReplaceAll(s, "'", `"`)))
	if e != api.OK {
		panic(s)
	}
	return v
}

// text is the plain text of a value, in which " is '.
func text(v any) string {
	b, _ := json.Print(v)
	return strings.ReplaceAll(string(b), `"`, "'")
}

// made is a sheet with documents, on a disk of 2500 sectors (R7).
func made(t *testing.T, docs ...string) (*sheet.Sheet, *pool.Pool, *disk.Disk) {
	t.Helper()
	d := disk.New(2500, 512)
	p, e := pool.Format(d)
	want(t, "Format", e, api.OK)
	s, e := sheet.Make(p)
	want(t, "Make", e, api.OK)
	insert(t, s, docs...)
	return s, p, d
}

func insert(t *testing.T, s *sheet.Sheet, docs ...string) {
	t.Helper()
	for _, doc := range docs {
		want(t, "Insert of "+doc, s.Insert(val(doc)), api.OK)
	}
}

// add adds indexes, each told as its kind and path with a colon between.
func add(t *testing.T, s *sheet.Sheet, specs ...string) {
	t.Helper()
	for _, x := range specs {
		kind, path, _ := strings.Cut(x, ":")
		want(t, "AddIndex of "+x, s.AddIndex(sheet.Spec{Kind: kind, Path: path}), api.OK)
	}
}

func read(t *testing.T, s string) *plan.Ask {
	t.Helper()
	a, e := plan.Read(val(s))
	want(t, "Read of "+s, e, api.OK)
	return a
}

// wantPlans wants plans, told with blanks between.
func wantPlans(t *testing.T, s *sheet.Sheet, ask, wants string) {
	t.Helper()
	if l := plan.Plans(s, read(t, ask)); strings.Join(l, " ") != wants {
		t.Errorf("plans for %s: %v; want %s", ask, l, wants)
	}
}

// wantFound wants an answer by all plans, each document told as its plain text, its score and its distance, if it is not 0, behind it; and as many counted, of which skip and limit leave some out.
func wantFound(t *testing.T, s *sheet.Sheet, ask string, count int, wants ...string) {
	t.Helper()
	a := read(t, ask)
	for _, p := range plan.Plans(s, a) {
		found, e := plan.Run(s, a, p)
		var l []string
		for _, f := range found {
			x := text(f.Doc)
			if f.Score != 0 {
				x += " score " + strconv.Itoa(f.Score)
			}
			if f.Near != 0 {
				x += " near " + strconv.FormatUint(f.Near, 10)
			}
			l = append(l, x)
		}
		if e != api.OK || !slices.Equal(l, wants) {
			t.Errorf("%s by %s: %d\n%s\nwant\n%s", ask, p, e, strings.Join(l, "\n"), strings.Join(wants, "\n"))
		}
	}
	if n, e := plan.Count(s, a); n != count || e != api.OK {
		t.Errorf("Count of %s: %d, %d; want %d", ask, n, e, count)
	}
}

// at is the text of a point's value.
func at(x, y any) string { return fmt.Sprintf("{'type':'Point','coordinates':[%v,%v]}", x, y) }

func TestExamples(t *testing.T) { // the chapter's
	s, _, _ := made(t)
	for i := range 9 {
		insert(t, s, fmt.Sprintf("{'_id':%d,'n':%d,'at':%s}", i, i*7%9, at(i-4, i%2)))
	}
	add(t, s, "order:n", "spot:at")
	wantFound(t, s, "{'where':{'n':{'$gt':3}},'sort':[['n',true]],'limit':2,'fields':['n']}", 5, "{'_id':5,'n':8}", "{'_id':1,'n':7}")
	wantFound(t, s, "{'near':{'path':'at','at':[0,0]},'limit':1,'fields':['at.type']}", 9, "{'_id':4,'at':{'type':'Point'}}")
}

func TestWhole(t *testing.T) { // DOC.md's examples 3 to 7
	s, _, _ := made(t)
	add(t, s, "spot:at", "text:says")
	insert(t, s, "{'_id':1,'at':"+at(1, 1)+",'says':'An old harbour town'}", "{'_id':2,'at':"+at(4, 5)+",'says':'Towns of ships, ships'}")
	wantFound(t, s, "{'near':{'path':'at','at':[0,0]},'fields':['_id']}", 2, "{'_id':1} near 200000000000000", "{'_id':2} near 4100000000000000")
	wantPlans(t, s, "{'text':{'path':'says','words':'ship'}}", "top:says text:says scan")
	wantFound(t, s, "{'where':{'says':{'$words':'town'}},'fields':['_id']}", 2, "{'_id':1}", "{'_id':2}")
	_, e := plan.Run(s, read(t, "{}"), "order:n")
	want(t, "Run by a plan that there is not", e, api.ErrPlan)
}

func TestRead(t *testing.T) { // P24.1
	path128 := strings.Repeat("x", 128)
	for _, q := range []string{
		"{}",
		"{'where':{}}",
		"{'where':{'a':1,'$or':[{'b':2},{'c':{'$gt':1}}]}}",
		"{'near':{'at':[1.5,-2],'path':'a.0'}}",
		"{'near':{'path':'" + path128 + "','at':[180,90]}}",
		"{'near':{'path':'$x','at':[-180,-90]}}",
		"{'text':{'path':'a','words':'a ship'}}",
		"{'text':{'words':'ship','path':'a','phrases':[]}}",
		"{'text':{'path':'a','words':'of the','phrases':['the ship']}}",
		"{'text':{'path':'a','phrases':['a ship','b','c','d','e','f','g','h']}}",
		"{'text':{'path':'a','words':'','phrases':['ship']}}",
		"{'sort':[]}",
		"{'sort':[['a',true],['a',false],['b.c',true],['d',false]]}",
		"{'skip':0,'limit':1}",
		"{'skip':1048576,'limit':1024}",
		"{'skip':1e1,'limit':10e0}",
		"{'fields':[]}",
		"{'fields':['a','a','" + path128 + "','a','a','a','a','a','a','a','a','a','a','a','a','b']}",
		"{'limit':5,'fields':['a'],'skip':5,'sort':[['a',true]],'text':{'path':'a','words':'ship'},'near':{'path':'a','at':[0,0]},'where':{'a':1}}",
	} {
		if a, e := plan.Read(val(q)); a == nil || e != api.OK {
			t.Errorf("Read of %s: %v, %d", q, a, e)
		}
	}
	for _, q := range []string{
		"null", "true", "1", "'x'", "[]", "[{}]",
		"{'':1}", "{'Where':{}}", "{'x':1}", "{'where':{},'x':1}",
		"{'where':null}", "{'where':[]}", "{'where':1}", "{'where':{'a':{'$foo':1}}}", "{'where':{'a..b':1}}",
		"{'near':null}", "{'near':[]}", "{'near':{}}", "{'near':{'path':'a'}}", "{'near':{'at':[0,0]}}", "{'near':{'path':'a','at':[0,0],'x':1}}",
		"{'near':{'path':1,'at':[0,0]}}", "{'near':{'path':'','at':[0,0]}}", "{'near':{'path':'a.','at':[0,0]}}", "{'near':{'path':'" + path128 + "x','at':[0,0]}}",
		"{'near':{'path':'a','at':[]}}", "{'near':{'path':'a','at':[0]}}", "{'near':{'path':'a','at':[0,0,0]}}", "{'near':{'path':'a','at':{}}}", "{'near':{'path':'a','at':['0',0]}}", "{'near':{'path':'a','at':[0,null]}}",
		"{'near':{'path':'a','at':[180.0000001,0]}}", "{'near':{'path':'a','at':[0,-90.0000001]}}", "{'near':{'path':'a','at':[-181,0]}}", "{'near':{'path':'a','at':[0,91]}}", "{'near':{'path':'a','at':{'type':'Point','coordinates':[0,0]}}}",
		"{'text':null}", "{'text':{}}", "{'text':'ship'}", "{'text':{'path':'a'}}", "{'text':{'words':'ship'}}", "{'text':{'path':'a','words':'ship','x':1}}",
		"{'text':{'path':'a','words':1}}", "{'text':{'path':'a','words':['ship']}}", "{'text':{'path':'a','words':null,'phrases':['ship']}}", "{'text':{'path':'a..b','words':'ship'}}", "{'text':{'path':null,'words':'ship'}}",
		"{'text':{'path':'a','words':''}}", "{'text':{'path':'a','words':'of the'}}", "{'text':{'path':'a','phrases':[]}}", "{'text':{'path':'a','words':'of','phrases':[]}}",
		"{'text':{'path':'a','phrases':'ship'}}", "{'text':{'path':'a','words':'ship','phrases':null}}", "{'text':{'path':'a','words':'ship','phrases':{}}}", "{'text':{'path':'a','phrases':[1]}}", "{'text':{'path':'a','phrases':[['ship']]}}",
		"{'text':{'path':'a','words':'ship','phrases':['']}}", "{'text':{'path':'a','words':'ship','phrases':['boat','of the']}}", "{'text':{'path':'a','phrases':['a ship','b','c','d','e','f','g','h','i']}}",
		"{'sort':null}", "{'sort':{}}", "{'sort':'a'}", "{'sort':['a',true]}", "{'sort':[[]]}", "{'sort':[['a']]}", "{'sort':[['a',true,true]]}", "{'sort':[['a',1]]}", "{'sort':[['a',null]]}", "{'sort':[[true,'a']]}", "{'sort':[['',true]]}", "{'sort':[['a.',true]]}", "{'sort':[{'a':true}]}",
		"{'sort':[['a',true],['b',true],['c',true],['d',true],['e',true]]}",
		"{'skip':-1}", "{'skip':1048577}", "{'skip':0.5}", "{'skip':'1'}", "{'skip':null}", "{'skip':[1]}", "{'skip':0.0000001}",
		"{'limit':0}", "{'limit':1025}", "{'limit':1.5}", "{'limit':-1}", "{'limit':'1'}", "{'limit':null}", "{'limit':1024.0000001}",
		"{'fields':null}", "{'fields':'a'}", "{'fields':[1]}", "{'fields':['']}", "{'fields':['a','b.']}", "{'fields':[['a']]}", "{'fields':{'a':1}}",
		"{'fields':['a','a','a','a','a','a','a','a','a','a','a','a','a','a','a','a','b']}",
	} {
		if a, e := plan.Read(val(q)); a != nil || e != api.ErrQuery {
			t.Errorf("Read of %s: %v, %d", q, a, e)
		}
	}
	for _, v := range []any{
		1, 1.5, struct{}{}, []any{}, map[string]any{}, "\xff",
		json.Object{{Name: "limit", Value: 5}},
		json.Object{{Name: "limit", Value: json.Num(one)}, {Name: "limit", Value: json.Num(one)}},
		json.Object{{Name: "skip", Value: json.Num(math.MaxInt64)}},
		json.Object{{Name: "where", Value: json.Object{{Name: "a", Value: 1}}}},
		json.Object{{Name: "fields", Value: []any{"a"}}},
		json.Object{{Name: "text", Value: json.Object{{Name: "path", Value: "a"}, {Name: "words", Value: "ship\xff"}}}},
		val("{'where':{'a':" + strings.Repeat("[", 30) + strings.Repeat("]", 30) + "}}").(json.Object)[0].Value.(json.Object)[0],
	} {
		if a, e := plan.Read(v); a != nil || e != api.ErrQuery {
			t.Errorf("Read of %v: %v, %d", v, a, e)
		}
	}
}

func TestPlans(t *testing.T) { // P24.1
	s, _, _ := made(t)
	wantPlans(t, s, "{}", "scan")
	wantPlans(t, s, "{'where':{'n':1},'text':{'path':'t','words':'x'}}", "scan")
	add(t, s, "text:t", "order:n", "spot:at", "cell:at", "order:at", "order:m", "text:u", "spot:to")
	for _, c := range [][2]string{
		{"{}", "scan"},
		{"{'where':{'n':1}}", "order:n scan"},
		{"{'where':{'n':null}}", "order:n scan"},
		{"{'where':{'n':{'a':1}}}", "order:n scan"},
		{"{'where':{'n':{}}}", "order:n scan"},
		{"{'where':{'n':[]}}", "order:n scan"},
		{"{'where':{'n':{'$eq':{'a':1}}}}", "order:n scan"},
		{"{'where':{'n':{'$in':[1,2]}}}", "order:n scan"},
		{"{'where':{'n':{'$in':[{}]}}}", "order:n scan"},
		{"{'where':{'n':{'$in':[]}}}", "scan"},
		{"{'where':{'n':{'$in':[],'$gt':1}}}", "order:n scan"},
		{"{'where':{'n':{'$lt':1}}}", "order:n scan"},
		{"{'where':{'n':{'$lte':'x'}}}", "order:n scan"},
		{"{'where':{'n':{'$gt':null}}}", "order:n scan"},
		{"{'where':{'n':{'$gte':[1]}}}", "order:n scan"},
		{"{'where':{'n':{'$gte':true}}}", "order:n scan"},
		{"{'where':{'n':{'$lt':{}}}}", "scan"},
		{"{'where':{'n':{'$lte':{'a':1}}}}", "scan"},
		{"{'where':{'n':{'$gt':{}}}}", "scan"},
		{"{'where':{'n':{'$gte':{}}}}", "scan"},
		{"{'where':{'n':{'$gte':{},'$lt':5}}}", "order:n scan"},
		{"{'where':{'n':{'$ne':1}}}", "scan"},
		{"{'where':{'n':{'$nin':[1]}}}", "scan"},
		{"{'where':{'n':{'$exists':true}}}", "scan"},
		{"{'where':{'n':{'$kind':'number'}}}", "scan"},
		{"{'where':{'n.0':1,'x':1}}", "scan"},
		{"{'where':{'$and':[{'n':1}]}}", "scan"},
		{"{'where':{'$or':[{'n':1}],'$not':{'m':1}}}", "scan"},
		{"{'where':{'$and':[{'n':1}],'m':1}}", "order:m scan"},
		{"{'where':{'n':1,'m':2}}", "order:n&order:m order:n order:m scan"},
		{"{'where':{'m':1,'n':2}}", "order:n&order:m order:n order:m scan"},
		{"{'where':{'at':{'$point':[0,0,1,1]}}}", "spot:at&cell:at spot:at cell:at scan"},
		{"{'where':{'at':{'$box':[0,0,1,1]}}}", "spot:at scan"},
		{"{'where':{'at':{'$meets':" + at(1, 1) + "}}}", "spot:at scan"},
		{"{'where':{'at':{'$within':" + square + "}}}", "spot:at scan"},
		{"{'where':{'at':{'$words':'x'}}}", "scan"},
		{"{'where':{'t':{'$words':'x'}}}", "scan"},
		{"{'where':{'at':{'$point':[0,0,1,1],'$gt':1},'to':{'$box':[0,0,1,1]}}}", "spot:at&cell:at spot:at&order:at spot:at&spot:to cell:at&order:at cell:at&spot:to order:at&spot:to spot:at cell:at order:at spot:to scan"},
		{"{'text':{'path':'t','words':'x'}}", "top:t text:t scan"},
		{"{'text':{'path':'u','words':'x','phrases':['y']}}", "top:u text:u scan"},
		{"{'text':{'path':'t','words':'the','phrases':['y']}}", "text:t scan"},
		{"{'text':{'path':'t','phrases':['y']}}", "text:t scan"},
		{"{'text':{'path':'n','words':'x'}}", "scan"},
		{"{'text':{'path':'t','words':'x'},'sort':[]}", "top:t text:t scan"},
		{"{'text':{'path':'t','words':'x'},'sort':[['n',true]]}", "text:t scan"},
		{"{'text':{'path':'t','words':'x'},'near':{'path':'x','at':[0,0]}}", "text:t scan"},
		{"{'text':{'path':'t','words':'x'},'near':{'path':'to','at':[0,0]}}", "near:to text:t scan"},
		{"{'text':{'path':'t','words':'x'},'near':{'path':'to','at':[0,0]},'sort':[['n',true]]}", "text:t scan"},
		{"{'near':{'path':'at','at':[0,0]}}", "near:at scan"},
		{"{'near':{'path':'at','at':[0,0]},'sort':[]}", "near:at scan"},
		{"{'near':{'path':'at','at':[0,0]},'sort':[['n',false]]}", "scan"},
		{"{'near':{'path':'n','at':[0,0]}}", "scan"},
		{"{'near':{'path':'to','at':[0,0]},'where':{'n':1},'text':{'path':'t','words':'x'},'limit':5}", "near:to text:t&order:n text:t order:n scan"},
		{"{'text':{'path':'t','words':'x'},'where':{'n':1,'at':{'$point':[0,0,1,1]},'m':1}}", "top:t text:t&order:n text:t&spot:at text:t&cell:at text:t&order:m order:n&spot:at order:n&cell:at order:n&order:m spot:at&cell:at spot:at&order:m cell:at&order:m text:t order:n spot:at cell:at order:m scan"},
	} {
		wantPlans(t, s, c[0], c[1])
	}
	want(t, "DropIndex", s.DropIndex(sheet.Spec{Kind: "order", Path: "n"}), api.OK)
	add(t, s, "order:n")
	wantPlans(t, s, "{'where':{'n':1,'m':2}}", "order:m&order:n order:m order:n scan")
}

func TestByOrder(t *testing.T) { // P24.3: values of all kinds, held against one another by each condition
	values := strings.Split("null;false;true;-900000000000;-1;0;0.0000001;1;900000000000;'';'a';'b';'"+strings.Repeat("x", 100)+"';[];[null];[[]];[{}];{};{'a':1}", ";")
	s, _, _ := made(t, "{'_id':-1}")
	for i, v := range values {
		insert(t, s, fmt.Sprintf("{'_id':%d,'n':%s}", i, v))
	}
	add(t, s, "order:n")
	names := []string{"$eq", "$lt", "$lte", "$gt", "$gte"}
	for _, v := range values {
		var conditions []string
		for _, name := range names {
			conditions = append(conditions, "'"+name+"':"+v)
		}
		for _, w := range values {
			for _, name := range names[1:] {
				conditions = append(conditions, "'$gte':"+v+",'"+strings.Replace(name, "gte", "eq", 1)+"':"+w)
			}
			conditions = append(conditions, "'$in':["+v+","+w+"]", "'$in':["+v+","+w+"],'$lte':"+w)
		}
		for _, c := range conditions {
			a := read(t, "{'where':{'n':{"+c+"}},'fields':['_id']}")
			wants, e := plan.Run(s, a, "scan")
			want(t, "Run by scan", e, api.OK)
			if l, e := plan.Run(s, a, "order:n"); e != api.ErrPlan && (e != api.OK || !slices.EqualFunc(l, wants, func(x, y plan.Found) bool { return json.Same(x.Doc, y.Doc) })) {
				t.Errorf("%s: %v, %d; want %v", c, l, e, wants)
			}
		}
	}
}

const square = "{'type':'Polygon','coordinates':[[[0,0],[4,0],[4,4],[0,4],[0,0]]]}"

func TestPlansOfOneName(t *testing.T) { // P24.1: each once
	s, _, _ := made(t, "{'_id':1,'a':1,'b':2,'a&order:b':3}", "{'_id':2,'a':1,'b':2}", "{'_id':3,'a&order:b':3}", "{'_id':4,'a':1,'b':2,'a&order:b':3}")
	add(t, s, "order:a&order:b", "order:a", "order:b")
	ask := "{'where':{'a':1,'b':2,'a&order:b':3},'fields':['_id']}"
	wantPlans(t, s, ask, "order:a&order:b&order:a order:a&order:b&order:b order:a&order:b order:a order:b scan")
	wantFound(t, s, ask, 2, "{'_id':1}", "{'_id':4}")
}

func TestRefused(t *testing.T) { // P24.2
	s, _, _ := made(t, "{'_id':1,'n':1}")
	add(t, s, "order:n", "spot:at", "text:t", "cell:at")
	a := read(t, "{'where':{'n':1,'at':{'$point':[0,0,1,1]}},'text':{'path':'t','words':'x'}}")
	for _, p := range []string{"", "Scan", "scan ", "order", "order:", "order:x", "near:at", "top:n", "order:n&", "spot:at&order:n", "order:n&order:n", "order:n&spot:at&text:t", "text:t&top:t", "top:t&order:n", "scan&scan"} {
		if l, e := plan.Run(s, a, p); l != nil || e != api.ErrPlan {
			t.Errorf("Run by %q: %v, %d", p, l, e)
		}
	}
	for _, c := range []struct {
		s *sheet.Sheet
		a *plan.Ask
	}{{nil, a}, {s, nil}, {nil, nil}} {
		for _, p := range []string{"scan", "x"} {
			if l, e := plan.Run(c.s, c.a, p); l != nil || e != api.ErrArg {
				t.Errorf("Run of nil: %v, %d", l, e)
			}
		}
		if n, e := plan.Count(c.s, c.a); n != 0 || e != api.ErrArg {
			t.Errorf("Count of nil: %d, %d", n, e)
		}
		if l := plan.Plans(c.s, c.a); l != nil {
			t.Errorf("Plans of nil: %v", l)
		}
	}
}

func TestSort(t *testing.T) { // P24.2
	s, _, _ := made(t, "{'_id':3,'a':2,'b':1}", "{'_id':'x','a':2}", "{'_id':1,'b':1}", "{'_id':2,'a':'2','b':2}", "{'_id':'','a':null,'b':1}", "{'_id':10,'a':2,'b':1}")
	add(t, s, "order:a", "order:b", "order:_id")
	of := func(ask string, ids ...string) {
		t.Helper()
		var l []string
		for _, id := range ids {
			l = append(l, "{'_id':"+id+"}")
		}
		wantFound(t, s, "{'fields':['_id'],"+ask+"}", 6, l...)
	}
	of("'sort':[]", "1", "2", "3", "10", "''", "'x'")
	of("'where':{}", "1", "2", "3", "10", "''", "'x'")
	of("'sort':[['a',false]]", "1", "''", "3", "10", "'x'", "2")
	of("'sort':[['a',true]]", "2", "3", "10", "'x'", "''", "1") // names stay in order; nowhere is turned round, too
	of("'sort':[['b',true],['a',false]]", "2", "1", "''", "3", "10", "'x'")
	of("'sort':[['b',false],['a',true]]", "'x'", "3", "10", "''", "1", "2")
	of("'sort':[['b',false],['a',true],['_id',true]]", "'x'", "10", "3", "''", "1", "2")
	of("'sort':[['_id',true]]", "'x'", "''", "10", "3", "2", "1")
	of("'sort':[['_id',true]],'skip':1,'limit':2", "''", "10")
	of("'sort':[['c',true]],'skip':4", "''", "'x'")
	of("'skip':5,'limit':1024", "'x'")
	of("'skip':6")
	of("'skip':1048576")
}

func TestMostTold(t *testing.T) { // P24.2: MaxTop, if there is no limit
	s, _, _ := made(t)
	for i := range 1030 {
		want(t, "Insert", s.Insert(json.Object{{Name: "_id", Value: json.Num(i * one)}}), api.OK)
	}
	for ask, wants := range map[string][2]int{"{}": {0, 1024}, "{'skip':3}": {3, 1024}, "{'skip':1029}": {1029, 1}, "{'skip':6,'limit':1024}": {6, 1024}, "{'skip':7,'limit':1024}": {7, 1023}, "{'limit':5}": {0, 5}, "{'skip':1030}": {1030, 0}} {
		l, e := plan.Run(s, read(t, ask), "scan")
		if e != api.OK || len(l) != wants[1] || len(l) > 0 && !json.Same(l[0].Doc, json.Object{{Name: "_id", Value: json.Num(wants[0] * one)}}) {
			t.Errorf("%s tells %d, %d", ask, len(l), e)
		}
		if n, e := plan.Count(s, read(t, ask)); n != 1030 || e != api.OK {
			t.Errorf("%s counts %d, %d", ask, n, e)
		}
	}
}

func TestFields(t *testing.T) { // P24.2
	s, _, _ := made(t, "{'a':{'b':[5,{'c':null}],'d':1},'_id':7,'l':[1,2,3],'x':{'_id':8}}")
	for _, c := range [][2]string{
		{"[]", "{'a':{'b':[5,{'c':null}],'d':1},'_id':7,'l':[1,2,3],'x':{'_id':8}}"},
		{"['z']", "{'_id':7}"},
		{"['_id']", "{'_id':7}"},
		{"['l','_id','a.d']", "{'_id':7,'l':[1,2,3],'a':{'d':1}}"},
		{"['a.d','a.b.1.c','a.b.0','z.z']", "{'_id':7,'a':{'d':1,'b':{'1':{'c':null},'0':5}}}"},
		{"['l.2','l.3','l.0']", "{'_id':7,'l':{'2':3,'0':1}}"},
		{"['l','l.1']", "{'_id':7,'l':[1,2,3]}"},
		{"['l.1','l']", "{'_id':7,'l':[1,2,3]}"},
		{"['a','a.b.1.c','a']", "{'_id':7,'a':{'b':[5,{'c':null}],'d':1}}"},
		{"['_id.x','x._id']", "{'_id':7,'x':{'_id':8}}"},
	} {
		wantFound(t, s, "{'fields':"+c[0]+"}", 1, c[1])
	}
}

func TestNear(t *testing.T) { // P24.2
	s, _, _ := made(t)
	for _, doc := range []string{
		"{'_id':'b','at':" + at(3, 4) + "}", "{'_id':'a','at':" + at(-5, 0) + "}", "{'_id':9,'at':" + at(0, 5) + "}", // as far, in other rows than names
		"{'_id':1,'at':" + at(-180, -90) + "}", "{'_id':2,'at':" + at(180, 90) + "}",
		"{'_id':3,'at':" + square + "}", "{'_id':4,'at':[0,0]}", "{'_id':5}", "{'_id':6,'at':{'at':" + at(0, 0) + "}}", "{'_id':7,'at':{'type':'LineString','coordinates':[[0,0],[1,1]]}}",
		"{'_id':8,'at':" + at("0.0000001", 0) + "}",
	} {
		insert(t, s, doc)
	}
	add(t, s, "spot:at")
	far := func(x, y int64) string { return fmt.Sprint(" near ", uint64(x*x)*one*one+uint64(y*y)*one*one) }
	all := []string{"{'_id':8} near 1", "{'_id':9}" + far(3, 4), "{'_id':'a'}" + far(5, 0), "{'_id':'b'}" + far(0, 5), "{'_id':1}" + far(180, 90), "{'_id':2}" + far(180, 90)}
	for skip := range 8 {
		for limit := 1; limit < 8; limit++ {
			from := min(skip, len(all))
			wantFound(t, s, fmt.Sprintf("{'near':{'path':'at','at':[0,0]},'fields':['_id'],'skip':%d,'limit':%d}", skip, limit), len(all), all[from:min(from+limit, len(all))]...)
		}
	}
	wantFound(t, s, "{'near':{'path':'at','at':[180,90]},'fields':['_id'],'limit':1}", 6, "{'_id':2}")
	wantFound(t, s, "{'near':{'path':'at.at','at':[0,0]},'fields':['_id']}", 1, "{'_id':6}")
	wantFound(t, s, "{'near':{'path':'at','at':[0,0]},'sort':[['_id',true]],'fields':['_id'],'limit':2}", 6, "{'_id':'b'}"+far(3, 4), "{'_id':'a'}"+far(5, 0))
	wantFound(t, s, "{'near':{'path':'x','at':[0,0]}}", 0)
}

func TestText(t *testing.T) { // P24.2
	s, _, _ := made(t,
		"{'_id':6,'t':'A ship'}", "{'_id':5,'t':'the ships'}", // as good, in other rows than names
		"{'_id':4,'t':'Two old ships and a boat'}", "{'_id':3,'t':'boats of the line'}", "{'_id':2,'t':'ship of the line, ship'}",
		"{'_id':1,'t':['ship']}", "{'_id':0,'t':''}", "{'_id':-1}", "{'_id':-2,'t':null,'u':'ship'}")
	// six texts, of 17 words; four have ship, two boat, two line, one old
	check := func() {
		t.Helper()
		of := func(ask string, count int, wants ...string) {
			t.Helper()
			wantFound(t, s, "{'text':{'path':'t',"+ask+"},'fields':['_id']}", count, wants...)
		}
		of("'words':'ships'", 4, scored(2, 4, 2, 5), scored(5, 4, 1, 2), scored(6, 4, 1, 2), scored(4, 4, 1, 6))
		of("'words':'the old old boat'", 2, scored(4, 1, 1, 6, 2, 1, 6), scored(3, 2, 1, 4))
		of("'words':'x'", 0)
		of("'words':'ship x zz'", 4, scored(2, 4, 2, 5), scored(5, 4, 1, 2), scored(6, 4, 1, 2), scored(4, 4, 1, 6))
		of("'words':'ship','phrases':['line']", 1, scored(2, 4, 2, 5))
		of("'words':'boat','phrases':['of the line','boat']", 1, scored(3, 2, 1, 4))
		of("'words':'boat','phrases':['of the line','ship']", 0)
		of("'phrases':['of the line']", 2, "{'_id':2}", "{'_id':3}")
		of("'phrases':['line of the']", 2, "{'_id':2}", "{'_id':3}")
		of("'words':'of the','phrases':['ships are in lines']", 1, "{'_id':2}")
		of("'phrases':['ship line']", 0)
		of("'phrases':['line ship']", 1, "{'_id':2}")
		of("'phrases':['ship','boat']", 1, "{'_id':4}")
		wantFound(t, s, "{'text':{'path':'t','words':'ship'},'sort':[['_id',true]],'limit':2,'skip':1,'fields':['_id']}", 4, scored(5, 4, 1, 2), scored(4, 4, 1, 6))
		wantFound(t, s, "{'text':{'path':'t.0','words':'ship'},'fields':['_id']}", 1, "{'_id':1} score "+score(1, 1, 1, 1, 1))
		wantFound(t, s, "{'text':{'path':'t','words':'ship'},'where':{'_id':{'$lt':5}},'fields':['_id']}", 2, scored(2, 4, 2, 5), scored(4, 4, 1, 6))
		all := []string{scored(2, 4, 2, 5), scored(5, 4, 1, 2), scored(6, 4, 1, 2), scored(4, 4, 1, 6)}
		for skip := range 6 {
			for limit := 1; limit < 6; limit++ {
				from := min(skip, len(all))
				wantFound(t, s, fmt.Sprintf("{'text':{'path':'t','words':'ship'},'fields':['_id'],'skip':%d,'limit':%d}", skip, limit), 4, all[from:min(from+limit, 4)]...)
			}
		}
	}
	check()
	add(t, s, "text:t", "order:_id")
	check()
	add(t, s, "text:t.0")
	check()
}

func TestNearAndText(t *testing.T) { // P24.2: by the distance, with scores
	s, _, _ := made(t, "{'_id':1,'at':"+at(5, 0)+",'t':'ship'}", "{'_id':2,'at':"+at(3, 0)+",'t':'the ship'}", "{'_id':3,'at':"+at(1, 0)+",'t':'boat'}", "{'_id':4,'t':'ship'}", "{'_id':5,'at':"+at(3, 0)+",'t':'ship'}")
	ask := "{'text':{'path':'t','words':'ship'},'near':{'path':'at','at':[0,0]},'fields':['_id']}"
	far := func(n int) string { return " near " + strconv.Itoa(n*n*one*one) }
	wants := []string{"{'_id':2} score " + score(5, 6, 4, 1, 2) + far(3), "{'_id':5} score " + score(5, 6, 4, 1, 1) + far(3), "{'_id':1} score " + score(5, 6, 4, 1, 1) + far(5)}
	wantFound(t, s, ask, 3, wants...)
	add(t, s, "spot:at")
	wantPlans(t, s, ask, "near:at scan")
	wantFound(t, s, ask, 3, wants...)
	add(t, s, "text:t")
	wantPlans(t, s, ask, "near:at text:t scan")
	wantFound(t, s, ask, 3, wants...)
}
