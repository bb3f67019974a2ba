package plan

import (
	"fmt"
	"strings"
	"testing"

	"waywiser/api"
	"waywiser/disk"
	"waywiser/json"
	"waywiser/pool"
	"waywiser/sheet"
)

// parsed is the value of a JSON text, in which ' stands for ".
func parsed(t *testing.T, s string) any {
	t.Helper()
	v, e := json.Parse([]byte(strings.ReplaceAll(s, "'", `"`)))
	if e != api.OK {
		t.Fatal(s)
	}
	return v
}

// TestFinders wants that indexes are made use of: that what they find is not much more than what is asked for.
func TestFinders(t *testing.T) {
	p, _ := pool.Format(disk.New(2500, 512))
	s, e := sheet.Make(p)
	if e != api.OK {
		t.Fatal(e)
	}
	for i := range 60 {
		doc := fmt.Sprintf("{'_id':%d,'n':%d,'at':{'type':'Point','coordinates':[%d,%d]},'t':'ship %d of line %d'}", i, i, i, i, i, i%2)
		if e := s.Insert(parsed(t, doc)); e != api.OK {
			t.Fatal(e)
		}
	}
	for _, x := range []sheet.Spec{{Kind: "order", Path: "n"}, {Kind: "cell", Path: "at"}, {Kind: "spot", Path: "at"}, {Kind: "text", Path: "t"}} {
		if e := s.AddIndex(x); e != api.OK {
			t.Fatal(e)
		}
	}
	for _, c := range []struct {
		ask, plan string
		least     int
		most      int
	}{
		{"{}", "scan", 60, 60},
		{"{'where':{'n':5}}", "order:n", 1, 1},
		{"{'where':{'n':{'$in':[5,7,5,-1]}}}", "order:n", 2, 2},
		{"{'where':{'n':{'$gt':4,'$lt':8}}}", "order:n", 3, 5},
		{"{'where':{'n':{'$gte':4,'$lte':8,'$in':[1,5,6]}}}", "order:n", 2, 2},
		{"{'where':{'n':{'$gt':8,'$lt':4}}}", "order:n", 0, 0},
		{"{'where':{'n':{'$gt':8,'$lt':'x'}}}", "order:n", 0, 0},
		{"{'where':{'n':{'$lt':'x'}}}", "order:n", 0, 0},
		{"{'where':{'n':{'$gt':true}}}", "order:n", 0, 0},
		{"{'where':{'n':{'$lt':4}}}", "order:n", 4, 5},
		{"{'where':{'n':{'$lt':[4]}}}", "order:n", 0, 0},
		{"{'where':{'at':{'$point':[3,3,5,5]}}}", "cell:at", 3, 10},
		{"{'where':{'at':{'$point':[3,3,5,5]}}}", "spot:at", 3, 3},
		{"{'where':{'at':{'$point':[3,3,5,5],'$box':[5,5,9,9]}}}", "spot:at", 1, 1},
		{"{'where':{'at':{'$meets':{'type':'LineString','coordinates':[[0,0],[3,3]]}}}}", "spot:at", 4, 4},
		{"{'where':{'at':{'$within':{'type':'Polygon','coordinates':[[[0,0],[4,0],[4,4],[0,0]]]}}}}", "spot:at", 5, 5},
		{"{'where':{'n':{'$gt':3},'at':{'$box':[0,0,5,5]}}}", "order:n&spot:at", 2, 3},
		{"{'text':{'path':'t','words':'7 9'}}", "text:t", 2, 2},
		{"{'text':{'path':'t','words':'ship','phrases':['line 1','ship 7 of line']}}", "text:t", 1, 1},
		{"{'text':{'path':'t','words':'ship'},'where':{'n':5}}", "order:n&text:t", 1, 1},
	} {
		a, e := Read(parsed(t, c.ask))
		if e != api.OK {
			t.Fatal(c.ask)
		}
		found := false
		for _, x := range (work{s, a}).sources() {
			if x.name != c.plan {
				continue
			}
			found = true
			rows, e := x.find()
			if e != api.OK || len(rows) < c.least || len(rows) > c.most {
				t.Errorf("%s by %s finds %v, %d", c.ask, c.plan, rows, e)
			}
		}
		if !found {
			t.Errorf("%s: no plan %s", c.ask, c.plan)
		}
	}
}

// TestFirsts wants that what an index has in an answer's order is looked at no further than the answer goes.
func TestFirsts(t *testing.T) {
	p, _ := pool.Format(disk.New(2500, 512))
	s, _ := sheet.Make(p)
	for i := range 100 {
		doc := fmt.Sprintf("{'_id':%d,'at':{'type':'Point','coordinates':[%d,0]},'t':'ship%s'}", i, i, strings.Repeat(" x", i/3))
		if e := s.Insert(parsed(t, doc)); e != api.OK {
			t.Fatal(e)
		}
	}
	s.AddIndex(sheet.Spec{Kind: "spot", Path: "at"})
	s.AddIndex(sheet.Spec{Kind: "text", Path: "t"})
	for _, ask := range []string{"{'near':{'path':'at','at':[0,0]},'limit':4}", "{'text':{'path':'t','words':'ships'},'limit':4}"} {
		a, e := Read(parsed(t, ask))
		if e != api.OK {
			t.Fatal(ask)
		}
		l, e := waysTo(s, a)[0].hits()
		if e != api.OK || len(l) < 4 || len(l) > 10 {
			t.Errorf("%s: %d hits, %d", ask, len(l), e)
		}
	}
}
