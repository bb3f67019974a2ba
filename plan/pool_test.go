package plan_test

import (
	"fmt"
	"slices"
	"strings"
	"testing"

	"waywiser/api"
	"waywiser/disk"
	"waywiser/json"
	"waywiser/plan"
	"waywiser/pool"
	"waywiser/sheet"
)

// everything asks for all that there are plans by, of a sheet of someDocs.
const everything = "{'where':{'n':{'$gte':1},'at':{'$point':[-9,-9,9,9]}},'text':{'path':'t','words':'ship','phrases':['ship']}}"

// nearest asks for what is near, of the same.
const nearest = "{'near':{'path':'at','at':[0,0]},'limit':2}"

func someDocs() []string {
	var l []string
	for i := range 40 {
		l = append(l, fmt.Sprintf("{'_id':%d,'n':%d,'at':%s,'t':'ship of the line %d','long':'%s'}", i, i%5, at(i%9, i%7), i, strings.Repeat("x", 100)))
	}
	return l
}

// down lets a disk go down, of which the pool does not know yet.
func down(d *disk.Disk) {
	d.Arm(1)
	d.Flush()
}

// wantErrors wants that all plans for a question tell an error, and nothing beside.
func wantErrors(t *testing.T, s *sheet.Sheet, ask string, wants api.Errno) {
	t.Helper()
	a := read(t, ask)
	for _, p := range plan.Plans(s, a) {
		if l, e := plan.Run(s, a, p); l != nil || e != wants {
			t.Errorf("Run by %s: %v, %d", p, l, e)
		}
	}
	if n, e := plan.Count(s, a); n != 0 || e != wants {
		t.Errorf("Count: %d, %d", n, e)
	}
	if l, e := plan.Run(s, a, "no"); l != nil || e != api.ErrPlan {
		t.Errorf("Run by no plan: %v, %d", l, e)
	}
}

// settled lets nothing be in memory.
func settled(t *testing.T, p *pool.Pool) {
	t.Helper()
	want(t, "Commit", p.Commit(), api.OK)
	want(t, "Checkpoint", p.Checkpoint(), api.OK)
}

func TestDown(t *testing.T) { // P24.2: the pool's error
	indexes := []string{"order:n", "cell:at", "spot:at", "text:t"}
	s, p, d := made(t, someDocs()...)
	add(t, s, indexes...)
	settled(t, p)
	down(d)
	wantErrors(t, s, everything, api.ErrDown)
	wantErrors(t, s, nearest, api.ErrDown)

	s, p, d = made(t, someDocs()...)
	settled(t, p)
	add(t, s, indexes...) // they are in memory, the documents are not
	down(d)
	wantErrors(t, s, everything, api.ErrDown)
	wantErrors(t, s, nearest, api.ErrDown)
}

func TestDownBehindDocument(t *testing.T) { // P24.2: the document that is asked for is in memory, the others are not
	s, p, d := made(t, "{'_id':1,'t':'"+strings.Repeat("ship ", 200)+"'}") // so long that it stands on pages of its own
	settled(t, p)
	add(t, s, "order:n")
	insert(t, s, "{'_id':20,'n':100,'t':'ship'}")
	down(d)
	a := read(t, "{'where':{'n':100},'fields':['n']}")
	l, e := plan.Run(s, a, "order:n")
	if e != api.OK || len(l) != 1 || text(l[0].Doc) != "{'_id':20,'n':100}" {
		t.Fatalf("%v, %d: it is not in memory", l, e)
	}
	l, e = plan.Run(s, read(t, "{'where':{'n':100},'text':{'path':'t','words':'ship'}}"), "order:n")
	if l != nil || e != api.ErrDown { // what it weighs hangs on all texts
		t.Fatalf("%v, %d", l, e)
	}
}

func TestDead(t *testing.T) { // P24.2: all is in memory
	s, p, d := made(t, "{'_id':1,'n':1,'at':"+at(1, 1)+",'t':'ship'}")
	add(t, s, "order:n", "cell:at", "spot:at", "text:t")
	want(t, "Commit", p.Commit(), api.OK)
	d.Arm(1)
	want(t, "Checkpoint", p.Checkpoint(), api.ErrDown)
	a := read(t, everything)
	for _, name := range plan.Plans(s, a) {
		if l, e := plan.Run(s, a, name); len(l) != 1 || e != api.OK {
			t.Errorf("Run by %s: %v, %d", name, l, e)
		}
	}
}

func TestMemory(t *testing.T) { // R4
	s, _, _ := made(t, "{'_id':1,'n':[1,2],'t':'ship'}")
	add(t, s, "order:n", "text:t")
	v := val("{'where':{'n':[1,2]},'text':{'path':'t','words':'ship','phrases':['ship']},'sort':[['n',true]],'fields':['n']}")
	a, e := plan.Read(v)
	want(t, "Read", e, api.OK)
	scramble(v)
	names := plan.Plans(s, a)
	if !slices.Equal(names, []string{"order:n&text:t", "order:n", "text:t", "scan"}) {
		t.Errorf("what was handed in is kept: %v", names)
	}
	for _, p := range slices.Clone(names) {
		for range 2 {
			l, e := plan.Run(s, a, p)
			if e != api.OK || len(l) != 1 || text(l[0].Doc) != "{'_id':1,'n':[1,2]}" {
				t.Fatalf("by %s: %v, %d", p, l, e)
			}
			scramble(l[0].Doc)
			l[0] = plan.Found{}
		}
		plan.Plans(s, a)[0] = "changed"
	}
}

// scramble changes all that is in a value.
func scramble(v any) {
	switch x := v.(type) {
	case json.List:
		for i := range x {
			scramble(x[i])
			x[i] = "changed"
		}
	case json.Object:
		for i := range x {
			scramble(x[i].Value)
			x[i] = json.Member{Name: "changed"}
		}
	}
}

func TestAsAlways(t *testing.T) { // R5, P24.3: the same question, over and over, of a sheet that is opened anew
	s, p, d := made(t, someDocs()...)
	add(t, s, "order:n", "cell:at", "spot:at", "text:t")
	want(t, "Commit", p.Commit(), api.OK)
	told := s.Tell()
	a := read(t, everything)
	wants, _ := plan.Run(s, a, "scan")
	for range 3 {
		for _, name := range plan.Plans(s, a) {
			l, e := plan.Run(s, a, name)
			if e != api.OK || len(l) == 0 || !slices.EqualFunc(l, wants, func(x, y plan.Found) bool {
				return x.Score == y.Score && json.Same(x.Doc, y.Doc)
			}) {
				t.Fatalf("by %s: %v, %d", name, l, e)
			}
		}
		d.Crash(nil)
		p, _ = pool.Open(d)
		s, _ = sheet.Open(p, told)
	}
}

func TestManyAlike(t *testing.T) { // P24.2, P24.3: as good, or as far, as many others, which stand in other rows than their names are in order
	s, _, _ := made(t)
	add(t, s, "text:t", "spot:at")
	for i := range 200 {
		id := (i*77 + 5) % 200
		insert(t, s, fmt.Sprintf("{'_id':%d,'t':'a ship','at':%s}", id, at(3*(id%2*2-1), 4*(id%4/2*2-1))))
	}
	insert(t, s, "{'_id':500,'t':'ship ship','at':"+at(1, 1)+"}", "{'_id':501,'t':'an old ship','at':"+at(6, 6)+"}")
	for _, c := range []struct{ skip, limit int }{{0, 1}, {0, 2}, {0, 5}, {1, 1}, {3, 7}, {150, 20}, {199, 2}, {199, 5}, {200, 1}, {201, 1}, {202, 1}, {0, 1024}, {0, 201}, {0, 202}, {1, 201}} {
		var wants []string
		for i := c.skip; i < min(c.skip+c.limit, 202); i++ {
			id := i - 1
			switch i {
			case 0:
				id = 500
			case 201:
				id = 501
			}
			wants = append(wants, fmt.Sprintf("{'_id':%d}", id))
		}
		for _, ask := range []string{"'text':{'path':'t','words':'ships'}", "'near':{'path':'at','at':[0,0]}"} {
			a := read(t, fmt.Sprintf("{%s,'skip':%d,'limit':%d,'fields':['_id']}", ask, c.skip, c.limit))
			for _, p := range plan.Plans(s, a) {
				l, e := plan.Run(s, a, p)
				var ids []string
				for _, f := range l {
					ids = append(ids, text(f.Doc))
				}
				if e != api.OK || !slices.Equal(ids, wants) {
					t.Fatalf("%v by %s: %v, %d", c, p, ids, e)
				}
			}
		}
	}
}
