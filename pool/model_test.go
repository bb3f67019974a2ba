package pool_test

import (
	"bytes"
	"maps"
	"math/rand"
	"slices"
	"testing"

	"waywiser/api"
	"waywiser/disk"
	"waywiser/pool"
)

// told is what a pool tells of its state: a copy of it is another one.
type told struct {
	loads map[int][]byte
	given []int
	most  int
	roots [8]int
}

func (s told) copy() told {
	s.loads, s.given = maps.Clone(s.loads), slices.Clone(s.given)
	return s
}

// model is a pool in the plainest way: as it is, as it was at the last commit, and which pages would be a group.
type model struct {
	now, then told
	changed   map[int]bool
}

func newModel() *model {
	return &model{told{loads: map[int][]byte{}}, told{loads: map[int][]byte{}}, map[int]bool{}}
}

func (m *model) take() int {
	page := m.now.most + 1
	if n := len(m.now.given); n > 0 {
		page, m.now.given = m.now.given[n-1], m.now.given[:n-1]
	} else {
		m.now.most++
	}
	m.now.loads[page] = load(0, 0)
	m.changed[0], m.changed[page] = true, true
	return page
}

func (m *model) give(page int) {
	delete(m.now.loads, page)
	m.now.given = append(m.now.given, page)
	m.changed[0], m.changed[page] = true, true
}

func (m *model) write(page int, l []byte) {
	m.now.loads[page] = l
	m.changed[page] = true
}

func (m *model) setRoot(k, n int) {
	m.now.roots[k] = n
	m.changed[0] = true
}

func (m *model) settle() {
	m.then = m.now.copy()
	clear(m.changed)
}

func (m *model) back() {
	m.now = m.then.copy()
	clear(m.changed)
}

// same: does a pool tell that?
func (s told) same(p *pool.Pool) bool {
	for k, n := range s.roots {
		if p.Root(k) != n {
			return false
		}
	}
	if p.Taken() != len(s.loads) {
		return false
	}
	for page := range p.Pages() {
		b, e := p.Read(page)
		if l, there := s.loads[page]; there != (e == api.OK) || !bytes.Equal(b, l) {
			return false
		}
	}
	return true
}

// sameOrder: does a pool, which has no changes, take the pages that this tells? They are taken back.
func (s told) sameOrder(p *pool.Pool) bool {
	m := &model{now: s.copy(), changed: map[int]bool{}}
	same := true
	for same && len(m.now.loads) < p.Pages()-1 {
		n, e := p.Take()
		same = e == api.OK && n == m.take()
	}
	return p.Back() == api.OK && same
}

// change changes a pool and its model by chance.
func (m *model) change(t *testing.T, r *rand.Rand, p *pool.Pool) {
	t.Helper()
	page := r.Intn(p.Pages())
	_, there := m.now.loads[page]
	e := api.OK
	if !there {
		e = api.ErrNone
	}
	switch r.Intn(8) {
	case 0, 1, 2:
		n := r.Intn(room + 1)
		l := load(byte(r.Intn(256)), n)
		want(t, "Write", p.Write(page, l[:n]), e)
		if there {
			m.write(page, l)
		}
	case 3, 4:
		n, e := p.Take()
		if len(m.now.loads) == p.Pages()-1 {
			want(t, "Take", e, api.ErrFull)
		} else if got := m.take(); n != got || e != api.OK {
			t.Fatalf("Take: %d, %d; want %d", n, e, got)
		}
	case 5, 6:
		want(t, "Give", p.Give(page), e)
		if there {
			m.give(page)
		}
	default:
		k, n := r.Intn(8), r.Intn(maxRoot)
		want(t, "SetRoot", p.SetRoot(k, n), api.OK)
		m.setRoot(k, n)
	}
}

func TestPoolIsItsModel(t *testing.T) { // P12.1, P12.2, P12.3
	r := rand.New(rand.NewSource(1))
	for range 150 {
		d := disk.New(24+r.Intn(20), size)
		p, m := format(t, d), newModel()
		slots := (d.Sectors() - 2) / 4
		for range 150 {
			switch k := r.Intn(24); {
			case k < 5:
				e := api.OK
				if len(m.changed) > slots {
					e = api.ErrFull
				}
				want(t, "Commit", p.Commit(), e)
				if e == api.OK {
					m.settle()
				} else {
					m.back()
				}
			case k == 5:
				want(t, "Back", p.Back(), api.OK)
				m.back()
			case k == 6:
				e := api.OK
				if len(m.changed) > 0 {
					e = api.ErrState
				}
				want(t, "Checkpoint", p.Checkpoint(), e)
			case k == 7:
				p = open(t, d)
				m.back()
				if !m.now.sameOrder(p) {
					t.Fatal("Open: another order of the pages that were given back")
				}
			case k == 8 && r.Intn(8) == 0:
				p, m = format(t, d), newModel()
			default:
				m.change(t, r, p)
			}
			if !m.now.same(p) {
				t.Fatal("a pool is not its model")
			}
		}
	}
}

// fates are some for so many loose writes, by chance.
func fates(r *rand.Rand, loose int) []int {
	l := make([]int, max(loose, 1))
	for i := range l {
		l[i] = r.Intn(2)
	}
	l[len(l)-1] = torn(r)
	return l
}

// torn is how much of a last write is done: often just where one part of a sector ends.
func torn(r *rand.Rand) int {
	parts := []int{0, 1, 7, 8, 9, 15, 16, 17, 24, 25, 33, 475, 476, 491, 492, 493, 495, 496, 497, 500, 503, 504, 505, 511, size}
	if r.Intn(3) == 0 {
		return r.Intn(size + 1)
	}
	return parts[r.Intn(len(parts))]
}

// reopened opens a pool, while the disk goes down now and then.
func reopened(t *testing.T, r *rand.Rand, d *disk.Disk) *pool.Pool {
	t.Helper()
	for {
		d.Arm(1 + r.Intn(30)*r.Intn(2))
		if r.Intn(3) == 0 {
			d.Arm(0)
		}
		p, e := pool.Open(d)
		if e == api.OK {
			d.Arm(0)
			return p
		}
		if p != nil || e != api.ErrDown {
			t.Fatalf("Open behind a crash: %d", e)
		}
		d.Crash(fates(r, d.Loose()))
	}
}

func TestCrashByChance(t *testing.T) { // P12.4
	r := rand.New(rand.NewSource(2))
	for range 250 {
		d := disk.New(24+r.Intn(20), size)
		p, m := format(t, d), newModel()
		for range 12 {
			d.Arm(1 + r.Intn(60))
			var perhaps *told
			for !p.Dead() && r.Intn(60) > 0 {
				if r.Intn(4) > 0 {
					if p.Taken() > 0 && r.Intn(20) == 0 { // one that the disk does not know of
						p.Read(1)
					} else {
						m.change(t, r, p)
					}
					continue
				}
				switch e := p.Commit(); e {
				case api.OK:
					m.settle()
				case api.ErrFull:
					m.back()
				default:
					perhaps = &m.now
				}
				if len(m.changed) == 0 && r.Intn(4) == 0 {
					p.Checkpoint()
				}
			}
			d.Crash(fates(r, d.Loose()))
			p = reopened(t, r, d)
			switch {
			case m.then.same(p) && m.then.sameOrder(p):
			case perhaps != nil && perhaps.same(p) && perhaps.sameOrder(p):
				m.then = perhaps.copy()
			default:
				t.Fatal("a pool behind a crash is neither as at the last commit nor as at the one more")
			}
			m.back()
		}
	}
}

// work is a row of commits, the last of them behind a checkpoint that there has to be ahead of it. It ends with the first error; it tells what was committed, and what would have been.
func work(p *pool.Pool) (sure, perhaps told) {
	m := newModel()
	commit := func() bool {
		perhaps = m.now
		if p.Commit() != api.OK {
			return false
		}
		m.settle()
		sure = m.then
		return true
	}
	write := func(page int, c byte) {
		p.Write(page, load(c, 400)[:400])
		m.write(page, load(c, 400))
	}
	take := func() {
		p.Take()
		m.take()
	}
	sure = m.then
	take()
	take()
	take()
	write(1, 1)
	write(2, 2)
	if !commit() {
		return
	}
	p.Give(2)
	m.give(2)
	if !commit() {
		return
	}
	p.Give(1)
	m.give(1)
	take()
	write(1, 7)
	write(3, 3)
	p.SetRoot(5, 55)
	m.setRoot(5, 55)
	commit()
	return
}

// TestCrashEverywhere lets the disk go down at each of its writes and flushes while a pool works, with all fates, and tears the last write at many bytes.
func TestCrashEverywhere(t *testing.T) { // P12.4
	r := rand.New(rand.NewSource(3))
	for n := 1; ; n++ {
		loose := 0
		down := false
		for fate := 0; fate < 1<<max(loose-1, 0); fate++ {
			for range 12 {
				p, d := formatted(t)
				d.Arm(n)
				sure, perhaps := work(p)
				down, loose = d.Down(), d.Loose()
				crash(d, fate, torn(r))
				p = reopened(t, r, d)
				if !(sure.same(p) && sure.sameOrder(p)) && !(down && perhaps.same(p) && perhaps.sameOrder(p)) {
					t.Fatalf("Arm(%d), fate %d: a pool is neither as at the last commit nor as at the one more", n, fate)
				}
			}
		}
		if !down {
			break
		}
	}
}

// crash lets a fate's bits say which loose writes are done, and how much of the last one.
func crash(d *disk.Disk, fate, torn int) {
	var l []int
	for i := range d.Loose() - 1 {
		l = append(l, fate>>i&1)
	}
	d.Crash(append(l, torn))
}

// TestCrashOfFormat formats a pool that is there anew, while the disk goes down: behind it the old one is there, or the new one.
func TestCrashOfFormat(t *testing.T) { // P12.4
	r := rand.New(rand.NewSource(4))
	for n := 1; ; n++ {
		loose := 0
		down := false
		for fate := 0; fate < 1<<max(loose-1, 0); fate++ {
			for round := range 24 {
				p, d := formatted(t)
				sure, _ := work(p)
				if round%2 == 0 {
					want(t, "Checkpoint", p.Checkpoint(), api.OK)
				}
				d.Arm(n)
				_, e := pool.Format(d)
				down, loose = d.Down(), d.Loose()
				if (e == api.OK) == down {
					t.Fatalf("Arm(%d): Format tells %d", n, e)
				}
				crash(d, fate, torn(r))
				p = reopened(t, r, d)
				blank := newModel().now
				if !(down && sure.same(p) && sure.sameOrder(p)) && !(blank.same(p) && blank.sameOrder(p)) {
					t.Fatalf("Arm(%d), fate %d: a pool is neither the old one nor the new one", n, fate)
				}
			}
		}
		if !down {
			break
		}
	}
	for n := 1; n < 5; n++ {
		for torn := range size + 1 {
			d := disk.New(sectors, size)
			d.Arm(n)
			_, e := pool.Format(d)
			d.Crash([]int{torn})
			p, f := pool.Open(d)
			if e == api.OK && f != api.OK || f != api.OK && f != api.ErrForm || f == api.OK && !newModel().now.same(p) {
				t.Fatalf("Arm(%d), torn at %d: Format tells %d, Open %d", n, torn, e, f)
			}
		}
	}
}
