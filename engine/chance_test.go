package engine_test

import (
	"fmt"
	"math/rand"
	"slices"
	"strings"
	"testing"

	"waywiser/api"
	"waywiser/disk"
	"waywiser/engine"
	"waywiser/json"
)

// maker makes commands by chance, in which ' stands for ".
type maker struct{ *rand.Rand }

func (r maker) pick(l ...string) string { return l[r.Intn(len(l))] }

func (r maker) sheet() string { return r.pick("'a'", "'a'", "'a'", "'b'", "'b'", "'c_9'") }

func (r maker) path() string { return r.pick("'n'", "'n'", "'t'", "'at'", "'l.0'", "'o.n'", "'_id'") }

func (r maker) number() string { return r.pick("0", "1", "2", "3", "1.5", "-7e-7") }

func (r maker) id() string { return r.pick(fmt.Sprint(r.Intn(16)), fmt.Sprintf("'%c'", 'p'+r.Intn(4))) }

func (r maker) place() string { return "[" + r.number() + "," + r.number() + "]" }

func (r maker) words() string {
	var l []string
	for range r.Intn(7) {
		l = append(l, r.pick("ship", "ships", "boats", "the", "of", "town", "old"))
	}
	return "'" + strings.Join(l, " ") + "'"
}

// value is one of all kinds.
func (r maker) value() string {
	switch r.Intn(9) {
	case 0:
		return r.pick("null", "true", "{}", "[]", "''", "1e99", "'\x01'", "")
	case 1:
		return "{'type':'Point','coordinates':" + r.place() + "}"
	case 2:
		return "{'type':'LineString','coordinates':[[0,0]," + r.place() + "]}"
	case 3:
		return "[" + r.number() + "," + r.words() + "]"
	case 4:
		return "{'n':" + r.number() + "}"
	case 5, 6:
		return r.words()
	case 7:
		return "'" + strings.Repeat(r.pick("ship ", "x "), r.Intn(120)) + "'"
	}
	return r.number()
}

func (r maker) doc() string {
	l := []string{"'_id':" + r.id()}
	for _, m := range [][2]string{{"n", r.number()}, {"t", r.words()}, {"at", "{'type':'Point','coordinates':" + r.place() + "}"}, {"l", "[" + r.value() + "]"}, {"o", "{'n':" + r.value() + "}"}} {
		switch r.Intn(6) {
		case 0:
		case 1:
			l = append(l, "'"+m[0]+"':"+r.value())
		default:
			l = append(l, "'"+m[0]+"':"+m[1])
		}
	}
	if r.Intn(30) == 0 {
		l = l[1:]
	}
	return "{" + strings.Join(l, ",") + "}"
}

func (r maker) where() string {
	switch r.Intn(6) {
	case 0:
		return "{}"
	case 1:
		return "{" + r.path() + ":{'$point':[0,0,2,2]}}"
	case 2:
		return "{" + r.path() + ":{'$words':'ship'}}"
	case 3:
		return "{'$or':[{'n':" + r.number() + "},{'_id':{'$gt':" + r.id() + "}}]}"
	case 4:
		return "{" + r.path() + ":" + r.value() + "}"
	}
	return "{" + r.path() + ":{'" + r.pick("$gt", "$lte", "$ne", "$no") + "':" + r.value() + "}}"
}

func (r maker) change() string {
	at := r.path()
	if r.Intn(3) > 0 && at == "'_id'" {
		at = "'n'"
	}
	return "{" + r.pick(
		"'$set':{"+at+":"+r.value()+"}", "'$inc':{"+at+":"+r.number()+"}", "'$push':{'l':"+r.value()+"}",
		"'$unset':["+at+"]", "'$rename':{"+at+":"+r.path()+"}", "'$max':{"+at+":"+r.value()+"}",
		"'$mul':{"+at+":2},'$set':{'o':"+r.value()+"}", "'$foo':{}", "") + "}"
}

func (r maker) ask() string {
	var l []string
	some := func(n int, s string) {
		if r.Intn(n) == 0 {
			l = append(l, s)
		}
	}
	some(2, "'where':"+r.where())
	some(4, "'near':{'path':"+r.pick("'at'", r.path())+",'at':"+r.place()+"}")
	some(4, "'text':{'path':"+r.pick("'t'", r.path())+",'words':"+r.words()+"}")
	some(4, "'sort':[["+r.path()+","+r.pick("true", "false")+"]]")
	some(4, "'skip':"+r.number())
	some(4, "'limit':"+r.number())
	some(4, "'fields':["+r.path()+","+r.path()+"]")
	return "{" + strings.Join(l, ",") + "}"
}

func (r maker) spec() string {
	return "'kind':" + r.pick("'order'", "'cell'", "'spot'", "'text'", "'text'", "'order'", "'no'") + ",'path':" + r.pick("'t'", "'at'", "'n'", r.path(), "'l'", "'.'")
}

// command is one of all, by chance; most are right.
func (r maker) command() string {
	s := r.sheet()
	var l []string
	switch n := r.Intn(60); {
	case n < 3:
		l = []string{"'create':" + r.pick(s, s, s, "'A'", "''", "1")}
	case n < 4:
		l = []string{"'drop':" + s}
	case n < 8:
		l = []string{"'index':" + s, r.spec()}
	case n < 9:
		l = []string{"'unindex':" + s, r.spec()}
	case n < 24:
		l = []string{"'insert':" + s, "'doc':" + r.doc()}
	case n < 29:
		l = []string{"'replace':" + s, "'doc':" + r.doc()}
	case n < 34:
		l = []string{"'update':" + s, "'id':" + r.id(), "'change':" + r.change()}
	case n < 38:
		l = []string{"'updates':" + s, "'where':" + r.where(), "'change':" + r.change()}
	case n < 40:
		l = []string{"'delete':" + s, "'id':" + r.id()}
	case n < 41:
		l = []string{"'deletes':" + s, "'where':" + r.where()}
	case n < 44:
		l = []string{"'get':" + s, "'id':" + r.id()}
	case n < 52:
		l = []string{"'find':" + s, "'ask':" + r.ask()}
		if r.Intn(3) == 0 {
			l = append(l, "'plan':'"+r.pick("scan", "scan", "order:n", "top:t", "near:at", "text:t&order:n", "cell:at")+"'")
		}
	case n < 54:
		l = []string{"'count':" + s, "'ask':" + r.ask()}
	case n < 56:
		l = []string{"'plans':" + s, "'ask':" + r.ask()}
	case n < 58:
		l = []string{"'sheets':" + r.pick("true", "true", "false", s)}
	default:
		l = []string{"'checkpoint':" + r.pick("true", "true", "true", "null")}
	}
	rest := l[1:]
	r.Shuffle(len(rest), func(i, j int) { rest[i], rest[j] = rest[j], rest[i] })
	switch r.Intn(40) {
	case 0:
		l = append(l, "'more':1")
	case 1:
		l = l[:len(l)-1]
	case 2:
		slices.Reverse(l)
	}
	return "{" + strings.Join(l, r.pick(",", ", ")) + "}"
}

// bytes are a command's, of some of which a few bytes are others.
func (r maker) bytes() []byte {
	b := []byte(strings.ReplaceAll(r.command(), "'", `"`))
	if r.Intn(20) == 0 {
		for range 1 + r.Intn(3) {
			at := r.Intn(len(b))
			switch r.Intn(3) {
			case 0:
				b[at] = byte(r.Intn(256))
			case 1:
				b = slices.Delete(b, at, at+1)
				b = append(b, ' ')
			default:
				b = b[:at+1]
			}
		}
	}
	return b
}

// isError: does a reply tell that error?
func isError(reply string, e api.Errno) bool { return reply == fmt.Sprintf(`{"error":%d}`, e) }

// TestEngineIsItsModel does by chance what may be done, on disks of all sizes, opened anew now and then; behind what tells ErrFull all is as it was.
func TestEngineIsItsModel(t *testing.T) { // P1, P25.1, P25.2
	full, done := 0, 0
	for turn := range 40 {
		r := maker{rand.New(rand.NewSource(int64(turn)))}
		sectors := []int{24, 30, 40, 60, 100, 300, 4000}[turn%7]
		d := disk.New(sectors, []int{512, 600, 1024, 4096}[turn%4])
		g, e := engine.Format(d)
		if e != api.OK {
			t.Fatalf("Format: %d", e)
		}
		m := model{}
		for range 300 {
			if r.Intn(60) == 0 {
				d.Crash(nil)
				if g, e = engine.Open(d); e != api.OK {
					t.Fatalf("Open: %d", e)
				}
			}
			c := r.bytes()
			reply := string(g.Do(slices.Clone(c)))
			wants, after := m.do(c)
			switch {
			case isError(reply, api.ErrFull) && !isError(wants, api.ErrFull):
				full++
			case reply != wants:
				t.Fatalf("turn %d: %q:\n%.2000s\nnot\n%.2000s", turn, c, reply, wants)
			default:
				m = after
				done++
			}
			if r.Intn(20) == 0 || isError(reply, api.ErrFull) {
				wantState(t, g, m)
			}
		}
		wantState(t, g, m)
	}
	if full < 40 || done < 5000 {
		t.Errorf("only %d were done, %d told ErrFull", done, full)
	}
}

// fates are those of a crash: no write is done, all are, or some.
func (r maker) fates(d *disk.Disk) []int {
	fates := make([]int, 40)
	n := r.Intn(4)
	for i := range fates {
		switch n {
		case 0:
		case 1:
			fates[i] = 2*d.Size() + 1 // odd, and as the last one the whole sector
		default:
			fates[i] = r.Intn(1 << 20)
		}
	}
	return fates
}

// reopened is an engine behind a crash, whatever its fates; the disk may go down while it is opened, too.
func reopened(t *testing.T, r maker, d *disk.Disk) *engine.Engine {
	t.Helper()
	for {
		d.Crash(r.fates(d))
		if r.Intn(2) == 0 {
			d.Arm(1 + r.Intn(12))
		}
		g, e := engine.Open(d)
		d.Arm(0)
		if e == api.OK {
			return g
		}
		if e != api.ErrDown || !d.Down() {
			t.Fatalf("Open behind a crash: %d", e)
		}
	}
}

// TestCrash lets disks go down by chance: behind it all is as behind the commands that were told OK, or as behind the one more that was not.
func TestCrash(t *testing.T) { // P3, P25.2
	before, behind := 0, 0
	for turn := range 50 {
		r := maker{rand.New(rand.NewSource(int64(turn)))}
		d := disk.New([]int{24, 100, 400}[turn%3], []int{512, 4096}[turn%2])
		g, _ := engine.Format(d)
		m := model{}
		for range 200 {
			if r.Intn(2) == 0 {
				d.Arm(1 + r.Intn(6))
			}
			c := r.bytes()
			reply := string(g.Do(c))
			wants, after := m.do(c)
			switch {
			case d.Down():
				if !isError(reply, api.ErrDown) || !g.Dead() {
					t.Fatalf("%q of a disk that is down: %s", c, reply)
				}
				g = reopened(t, r, d)
				if stateIs(g, m) == "" {
					before++
				} else {
					wantState(t, g, after)
					m = after
					behind++
				}
			case isError(reply, api.ErrFull):
			case reply != wants:
				t.Fatalf("turn %d: %q:\n%.2000s\nnot\n%.2000s", turn, c, reply, wants)
			default:
				m = after
			}
			d.Arm(0)
		}
		wantState(t, g, m)
	}
	if before < 200 || behind < 20 {
		t.Errorf("only %d times all was as before, %d times as behind", before, behind)
	}
}

// wantState holds all that an engine tells against its model.
func wantState(t *testing.T, g *engine.Engine, m model) {
	t.Helper()
	if why := stateIs(g, m); why != "" {
		t.Fatal(why)
	}
}

// stateIs tells in what an engine differs from its model; nothing, if in nothing.
func stateIs(g *engine.Engine, m model) string {
	names, e := g.Sheets()
	if l, _ := m.do([]byte(`{"sheets":true}`)); e != api.OK || string(g.Do([]byte(`{"sheets":true}`))) != l {
		return fmt.Sprintf("sheets: %v, %d, %s; not %s", names, e, g.Do([]byte(`{"sheets":true}`)), l)
	}
	if len(names) != len(m) || !slices.IsSorted(names) {
		return fmt.Sprintf("%v", names)
	}
	for _, name := range names {
		for _, ask := range []string{"{}", `{"where":{"n":{"$gte":0},"at":{"$point":[-180,-90,180,90]}},"text":{"path":"t","words":"ship town old"}}`, `{"near":{"path":"at","at":[0,0]},"where":{"t":"ships"}}`} {
			for _, plan := range plansFor(g, name, ask) {
				c := []byte(`{"find":"` + name + `","ask":` + ask + `,"plan":"` + plan + `"}`)
				reply := string(g.Do(c))
				if wants, _ := m.do(c); reply != wants {
					return fmt.Sprintf("%s:\n%.2000s\nnot\n%.2000s", c, reply, wants)
				}
			}
		}
	}
	return ""
}

// plansFor are the plans that there are for a question.
func plansFor(g *engine.Engine, name, ask string) []string {
	v, _ := json.Parse(g.Do([]byte(`{"plans":"` + name + `","ask":` + ask + `}`)))
	plans, _ := json.Field(v, "plans")
	l, _ := plans.(json.List)
	out := []string{}
	for _, p := range l {
		out = append(out, p.(string))
	}
	return out
}
