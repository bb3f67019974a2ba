package btree_test

import (
	"bytes"
	"maps"
	"math/rand"
	"slices"
	"testing"

	"waywiser/api"
	"waywiser/btree"
	"waywiser/disk"
	"waywiser/pool"
)

// model is a tree in the plainest way.
type model map[string]string

// from tells its keys, in order, that are not ahead of one.
func (m model) from(key string) []string {
	var l []string
	for _, k := range slices.Sorted(maps.Keys(m)) {
		if k >= key {
			l = append(l, k)
		}
	}
	return l
}

// same holds all that a tree tells against its model.
func (m model) same(t *testing.T, x *btree.Tree) {
	t.Helper()
	keys := m.from("")
	wantKeys(t, x, "", "", len(keys)+1, keys...)
	for _, k := range keys {
		wantValue(t, x, k, m[k])
	}
}

// look holds what a tree tells of one key against its model.
func (m model) look(t *testing.T, r *rand.Rand, x *btree.Tree, key string) {
	t.Helper()
	if v, there := m[key]; there {
		wantValue(t, x, key, v)
	} else {
		wantNone(t, x, key)
	}
	l := m.from(key)
	m.lookFirst(t, x.Next, key, l)
	if _, there := m[key]; there {
		m.lookFirst(t, x.After, key, l[1:])
	} else {
		m.lookFirst(t, x.After, key, l)
	}
	to, most := anyKey(r), r.Intn(12)
	if to != "" {
		l = slices.DeleteFunc(l, func(k string) bool { return k >= to })
	}
	wantKeys(t, x, key, to, most, l[:min(most, len(l))]...)
}

func (m model) lookFirst(t *testing.T, call func(key []byte) (k, v []byte, e api.Errno), key string, l []string) {
	t.Helper()
	if len(l) == 0 {
		wantNoFirst(t, call, key)
	} else {
		wantFirst(t, call, key, l[0], m[l[0]])
	}
}

// anyKey is one by chance, of those of which some often come again: short ones, and long ones that begin alike.
func anyKey(r *rand.Rand) string {
	b := make([]byte, r.Intn(4))
	if r.Intn(2) == 0 {
		b = bytes.Repeat([]byte{'m'}, 60+r.Intn(5))
	}
	for i := max(0, len(b)-3); i < len(b); i++ {
		b[i] = "\x00amz\xff"[r.Intn(5)]
	}
	return string(b)
}

// anyValue is one by chance: often just as long as what has room somewhere.
func anyValue(r *rand.Rand, room int) string {
	n := r.Intn(20)
	switch r.Intn(8) {
	case 0:
		n = r.Intn(room)
	case 1:
		n = room/2 - r.Intn(75)
	case 2:
		n = (room-4)*(1+r.Intn(3)) - 1 + r.Intn(3)
	}
	return text(n + 300)[300:]
}

// TestTreeIsItsModel does by chance what may be done with two trees of a pool.
func TestTreeIsItsModel(t *testing.T) { // P13.2, P13.3, P13.4
	r := rand.New(rand.NewSource(1))
	for turn := range 60 {
		size := []int{512, 513, 700, 1024, 4096}[turn%5]
		p, d := formatted(t, 3000, size)
		trees := []*btree.Tree{made(t, p), made(t, p)}
		now := []model{{}, {}}
		want(t, "Commit", p.Commit(), api.OK)
		then := []model{{}, {}}
		puts := 2 + r.Intn(8)
		for range 300 {
			i := r.Intn(2)
			x, m := trees[i], now[i]
			key := anyKey(r)
			switch k := r.Intn(24); {
			case k == 0:
				want(t, "Commit", p.Commit(), api.OK)
				then = []model{maps.Clone(now[0]), maps.Clone(now[1])}
			case k == 1 && r.Intn(4) == 0:
				want(t, "Back", p.Back(), api.OK)
				now = []model{maps.Clone(then[0]), maps.Clone(then[1])}
			case k == 2 && r.Intn(4) == 0:
				p = opened(t, d)
				now = []model{maps.Clone(then[0]), maps.Clone(then[1])}
				trees = []*btree.Tree{open(t, p, trees[0].Root()), open(t, p, trees[1].Root())}
				now[0].same(t, trees[0])
				now[1].same(t, trees[1])
			case k < 4:
				puts = 2 + r.Intn(18)
			case k < 4+puts:
				v := anyValue(r, p.Room())
				put(t, x, key, v)
				m[key] = v
			default:
				if l := m.from(key); len(l) > 0 && r.Intn(4) > 0 {
					key = l[0]
				}
				e := api.ErrNone
				if _, there := m[key]; there {
					e = api.OK
				}
				want(t, "Drop", x.Drop([]byte(key)), e)
				delete(m, key)
			}
			now[i].look(t, r, trees[i], key)
			now[1-i].look(t, r, trees[1-i], key)
		}
		end(t, p, trees, now)
	}
}

// end drops what trees have: their roots alone are taken then.
func end(t *testing.T, p *pool.Pool, trees []*btree.Tree, now []model) {
	t.Helper()
	for i, x := range trees {
		now[i].same(t, x)
		for k := range now[i] {
			drop(t, x, k)
		}
		wantHeight(t, x, 1)
		wantKeys(t, x, "", "", 9)
	}
	wantTaken(t, p, 2)
	for i, x := range trees {
		want(t, "Free", x.Free(), api.OK)
		wantTaken(t, p, 1-i)
	}
}

// TestDown lets the disk go down while a row of changes is committed: opened behind the crash, the tree has what was there at the last commit, or at the one more.
func TestDown(t *testing.T) { // P13.4, P3
	r := rand.New(rand.NewSource(2))
	for range 400 {
		p, d := formatted(t, 300, 512)
		x := made(t, p)
		then, now := model{}, model{}
		for e := api.OK; ; {
			want(t, "Commit", p.Commit(), e)
			then = maps.Clone(now)
			for range 1 + r.Intn(6) {
				key, v := anyKey(r), anyValue(r, 467)
				if r.Intn(3) == 0 {
					e := x.Drop([]byte(key))
					if e != api.OK && e != api.ErrNone {
						t.Fatalf("Drop: %d", e)
					}
					delete(now, key)
				} else {
					put(t, x, key, v)
					now[key] = v
				}
			}
			if r.Intn(12) == 0 {
				break
			}
		}
		d.Arm(1 + r.Intn(30))
		e := p.Commit()
		d.Crash([]int{r.Intn(2), r.Intn(2), r.Intn(2), r.Intn(513)})
		p = opened(t, d)
		root := x.Root()
		x, f := btree.Open(p, root)
		if f != api.OK {
			if e == api.OK || len(then) > 0 {
				t.Fatalf("Open: %d", f)
			}
			continue
		}
		keys, _ := x.Keys(nil, nil, 1<<30)
		if e != api.OK && isModel(x, keys, then) {
			continue
		}
		if !isModel(x, keys, now) {
			t.Fatal("the tree has neither what it had nor what it was to have")
		}
	}
}

// isModel: has a tree, of which these are the keys, just what a model has?
func isModel(x *btree.Tree, keys [][]byte, m model) bool {
	if len(keys) != len(m) {
		return false
	}
	for _, k := range keys {
		b, e := x.Get(k)
		if v, there := m[string(k)]; !there || e != api.OK || v != string(b) {
			return false
		}
	}
	return true
}

// TestSameBytes does the same with several trees: their disks are alike.
func TestSameBytes(t *testing.T) { // R5
	var wants []byte
	for range 5 {
		r := rand.New(rand.NewSource(3))
		d := disk.New(2000, 512)
		p, e := pool.Format(d)
		want(t, "Format", e, api.OK)
		x := made(t, p)
		m := model{}
		for range 400 {
			key := anyKey(r)
			if _, there := m[key]; there && r.Intn(2) == 0 {
				drop(t, x, key)
				delete(m, key)
			} else {
				put(t, x, key, anyValue(r, 467))
				m[key] = ""
			}
			want(t, "Commit", p.Commit(), api.OK)
		}
		var got []byte
		for at := range d.Sectors() {
			b, _ := d.Read(at)
			got = append(got, b...)
		}
		if wants == nil {
			wants = got
		}
		if !bytes.Equal(got, wants) {
			t.Fatal("trees to which the same was done have not the same bytes")
		}
	}
}
