package pool_test

import (
	"bytes"
	"encoding/binary"
	"fmt"
	"math"
	"reflect"
	"slices"
	"testing"

	"waywiser/api"
	"waywiser/disk"
	"waywiser/frame"
	"waywiser/log"
	"waywiser/pool"
)

const (
	sectors  = 26 // 2 heads, 6 slots, 18 pages
	slots    = 6
	size     = 512
	room     = 467
	maxRoot  = 1<<31 - 1
	maxEpoch = 1 << 40
)

// load is a page's, of which the first n bytes are c.
func load(c byte, n int) []byte {
	return append(bytes.Repeat([]byte{c}, n), make([]byte, room-n)...)
}

// want fails, if a call did not tell e.
func want(t *testing.T, what string, got, e api.Errno) {
	t.Helper()
	if got != e {
		t.Fatalf("%s: %d, want %d", what, got, e)
	}
}

// wantPage fails, if a page does not have that load.
func wantPage(t *testing.T, p *pool.Pool, page int, l []byte) {
	t.Helper()
	if got, e := p.Read(page); e != api.OK || !bytes.Equal(got, l) {
		t.Errorf("Read(%d): %s, %d; want %s", page, short(got), e, short(l))
	}
}

// short tells a load without the 0 at its end.
func short(l []byte) string {
	return fmt.Sprintf("%d bytes, %x", len(l), bytes.TrimRight(l, "\x00"))
}

// wantNoPage fails, if a page is taken.
func wantNoPage(t *testing.T, p *pool.Pool, page int) {
	t.Helper()
	if got, e := p.Read(page); e != api.ErrNone || got != nil {
		t.Errorf("Read(%d): %s, %d; want none", page, short(got), e)
	}
}

// take takes a page, which has to be that one.
func take(t *testing.T, p *pool.Pool, page int) {
	t.Helper()
	if got, e := p.Take(); e != api.OK || got != page {
		t.Fatalf("Take: %d, %d; want %d", got, e, page)
	}
	wantPage(t, p, page, make([]byte, p.Room()))
}

// formatted is a pool on a disk of its own.
func formatted(t *testing.T) (*pool.Pool, *disk.Disk) {
	t.Helper()
	d := disk.New(sectors, size)
	return format(t, d), d
}

func format(t *testing.T, d *disk.Disk) *pool.Pool {
	t.Helper()
	p, e := pool.Format(d)
	want(t, "Format", e, api.OK)
	return p
}

func open(t *testing.T, d *disk.Disk) *pool.Pool {
	t.Helper()
	p, e := pool.Open(d)
	want(t, "Open", e, api.OK)
	return p
}

// put writes a sector, and flushes.
func put(t *testing.T, d *disk.Disk, at int, b []byte) {
	t.Helper()
	want(t, "Write of a sector", d.Write(at, b), api.OK)
	want(t, "Flush", d.Flush(), api.OK)
}

// head is a sector with a mark.
func head(t *testing.T, d *disk.Disk, mark int, load []byte) []byte {
	t.Helper()
	b, e := frame.Build(d.Size(), mark, load)
	want(t, "Build", e, api.OK)
	return b
}

// epoch tells the greatest one of the heads.
func epoch(t *testing.T, d *disk.Disk) int {
	t.Helper()
	out := 0
	for at := range 2 {
		b, e := d.Read(at)
		want(t, "Read of a head", e, api.OK)
		mark, l, e := frame.Read(b)
		if e == api.OK && mark <= maxEpoch && mark%2 == at && bytes.Equal(l, make([]byte, len(l))) {
			out = max(out, mark)
		}
	}
	return out
}

// groups are what the log holds: the pages of each group.
func groups(t *testing.T, d *disk.Disk) [][]int {
	t.Helper()
	held, e := log.Read(d, 2, (d.Sectors()-2)/4, epoch(t, d))
	want(t, "Read of the log", e, api.OK)
	var out [][]int
	for _, g := range held {
		pages := []int{}
		for _, c := range g {
			pages = append(pages, c.Page)
		}
		slices.Sort(pages)
		out = append(out, pages)
	}
	return out
}

func wantGroups(t *testing.T, d *disk.Disk, pages ...[]int) {
	t.Helper()
	if got := groups(t, d); !reflect.DeepEqual(got, pages) {
		t.Errorf("the log's groups are of the pages %v, want %v", got, pages)
	}
}

// wantBlank fails, if a pool has anything.
func wantBlank(t *testing.T, p *pool.Pool) {
	t.Helper()
	if p.Taken() != 0 || p.Dead() {
		t.Errorf("%d pages taken, dead: %t", p.Taken(), p.Dead())
	}
	for page := -1; page <= p.Pages(); page++ {
		wantNoPage(t, p, page)
	}
	for k := -1; k <= 8; k++ {
		if p.Root(k) != 0 {
			t.Errorf("root %d is %d", k, p.Root(k))
		}
	}
}

// bytesOf are all of a disk.
func bytesOf(t *testing.T, d *disk.Disk) []byte {
	t.Helper()
	var out []byte
	for at := range d.Sectors() {
		b, e := d.Read(at)
		want(t, "Read of a sector", e, api.OK)
		out = append(out, b...)
	}
	return out
}

func TestWhereNoPoolStands(t *testing.T) { // P12.1
	p, e := pool.Format(nil)
	q, f := pool.Open(nil)
	if p != nil || q != nil || e != api.ErrArg || f != api.ErrArg {
		t.Errorf("of nil %v, %d; %v, %d", p, e, q, f)
	}
	for _, c := range []struct{ sectors, size int }{{23, 512}, {1, 4096}, {24, 511}, {1000, 64}, {23, 511}} {
		for _, down := range []bool{false, true} {
			d := disk.New(c.sectors, c.size)
			if down {
				d.Arm(1)
				d.Flush()
			}
			p, e := pool.Format(d)
			q, f := pool.Open(d)
			if p != nil || q != nil || e != api.ErrSize || f != api.ErrSize {
				t.Errorf("on %v: %v, %d; %v, %d", c, p, e, q, f)
			}
		}
	}
	d := disk.New(24, 512)
	if p, e := pool.Open(d); p != nil || e != api.ErrForm {
		t.Errorf("Open of a fresh disk: %v, %d", p, e)
	}
	d.Arm(1)
	d.Flush()
	p, e = pool.Format(d)
	q, f = pool.Open(d)
	if p != nil || q != nil || e != api.ErrDown || f != api.ErrDown {
		t.Errorf("on a disk that is down: %v, %d; %v, %d", p, e, q, f)
	}
}

func TestWherePoolsStand(t *testing.T) { // P12.1, P12.2
	for _, c := range []struct{ sectors, size, room, pages int }{
		{24, 512, 467, 17}, {25, 512, 467, 18}, {26, 513, 468, 18}, {27, 512, 467, 19}, {40, 4096, 4051, 29}, {1000, 512, 467, 749}, {1 << 20, 512, 467, 786431},
	} {
		d := disk.New(c.sectors, c.size)
		p := format(t, d)
		if p.Room() != c.room || p.Pages() != c.pages || p.Taken() != 0 || p.Dead() {
			t.Errorf("%v: Room %d, Pages %d, Taken %d", c, p.Room(), p.Pages(), p.Taken())
		}
		take(t, p, 1)
		want(t, "Write", p.Write(1, bytes.Repeat([]byte{7}, c.room)), api.OK)
		want(t, "Write", p.Write(1, make([]byte, c.room+1)), api.ErrSize)
		want(t, "Commit", p.Commit(), api.OK)
		q := open(t, d)
		if q.Room() != c.room || q.Pages() != c.pages || q.Taken() != 1 {
			t.Errorf("%v: opened: Room %d, Pages %d, Taken %d", c, q.Room(), q.Pages(), q.Taken())
		}
		wantPage(t, q, 1, bytes.Repeat([]byte{7}, c.room))
	}
}

func TestFormatIsBlank(t *testing.T) { // P12.1
	p, d := formatted(t)
	wantBlank(t, p)
	if epoch(t, d) < 1 || d.Loose() != 0 {
		t.Errorf("the epoch %d, %d loose writes", epoch(t, d), d.Loose())
	}
	wantBlank(t, open(t, d))
	for page := 1; page < 18; page++ {
		p = open(t, d)
		take(t, p, page)
		want(t, "Write", p.Write(page, load(9, room)), api.OK)
		want(t, "SetRoot", p.SetRoot(page%8, page), api.OK)
		want(t, "Commit", p.Commit(), api.OK)
	}
	for page := 17; page > 9; page-- {
		want(t, "Give", p.Give(page), api.OK)
		want(t, "Commit", p.Commit(), api.OK)
	}
	was := epoch(t, d)
	for _, reopened := range []bool{false, true} {
		p = format(t, d)
		if reopened {
			p = open(t, d)
		}
		wantBlank(t, p)
		if epoch(t, d) <= was {
			t.Errorf("the epoch %d is not above %d", epoch(t, d), was)
		}
		for page := 1; page < 18; page++ {
			take(t, p, page)
		}
	}
}

// TestFormatOnAnything begins with a disk whose bytes are anything, with a few heads and slots.
func TestFormatOnAnything(t *testing.T) { // P12.1
	for _, c := range []struct{ head0, head1, slot, want int }{
		{0, 0, 0, 0}, {6, 0, 0, 6}, {6, 7, 0, 7}, {8, 7, 0, 8}, {0, 0, 9, 9}, {6, 5, 30, 30}, {6, 5, 31, 31}, {40, 5, 30, 40},
		{1 << 39, 0, 0, 1 << 39}, {0, 1<<40 - 1, 0, 1<<40 - 1}, {4, 5, 1<<40 - 1, 1<<40 - 1}, {1<<40 - 2, 1, 2, 1<<40 - 2},
		{7, 8, 0, 0}, {1<<40 + 2, 1<<40 + 1, 1<<40 + 1, 0}, // none of them is a head, or a slot
	} {
		for _, fill := range []byte{0, 1, 0xFF} {
			d := disk.New(sectors, size)
			for at := range sectors {
				put(t, d, at, bytes.Repeat([]byte{fill}, size))
			}
			for at, mark := range []int{c.head0, c.head1} {
				if mark > 0 {
					put(t, d, at, head(t, d, mark, nil))
				}
			}
			if c.slot > 0 {
				put(t, d, 5, head(t, d, 1<<21*c.slot+4, bytes.Repeat([]byte{fill}, 400)))
			}
			p := format(t, d)
			wantBlank(t, p)
			if got := epoch(t, d); got <= c.want || got > maxEpoch || d.Loose() > 0 {
				t.Errorf("%v: the epoch is %d", c, got)
			}
			wantGroups(t, d)
			wantClean(t, d)
			take(t, p, 1)
			want(t, "Commit", p.Commit(), api.OK)
			wantGroups(t, d, []int{0, 1})
		}
	}
}

// TestLastEpoch begins where there is one epoch more, and no other.
func TestLastEpoch(t *testing.T) { // P12.1, P12.3
	for _, call := range []func(d *disk.Disk) (*pool.Pool, api.Errno){pool.Format, pool.Open} {
		d := disk.New(sectors, size)
		put(t, d, 1, head(t, d, maxEpoch-1, nil))
		p, e := call(d)
		want(t, "Format, Open", e, api.OK)
		wantBlank(t, p)
		if epoch(t, d) != maxEpoch {
			t.Errorf("the epoch is %d", epoch(t, d))
		}
		want(t, "Checkpoint", p.Checkpoint(), api.ErrFull)
		for n := 1; n < slots; n++ {
			want(t, "SetRoot", p.SetRoot(0, n), api.OK)
			want(t, "Commit", p.Commit(), api.OK)
		}
		take(t, p, 1)
		want(t, "Commit, where there has to be a checkpoint", p.Commit(), api.ErrFull)
		if p.Taken() != 0 || p.Root(0) != slots-1 || p.Dead() {
			t.Errorf("%d pages taken, root %d, dead: %t", p.Taken(), p.Root(0), p.Dead())
		}
		if p, e := call(d); p != nil || e != api.ErrFull {
			t.Errorf("Format, Open: %v, %d", p, e)
		}
	}
}

// wantClean fails, if there is a slot that is no sector with that slot's mark, and is not 0.
func wantClean(t *testing.T, d *disk.Disk) {
	t.Helper()
	for i := range (d.Sectors() - 2) / 4 {
		b, e := d.Read(2 + i)
		want(t, "Read of a slot", e, api.OK)
		if mark, _, e := frame.Read(b); (e != api.OK || mark%(1<<21) != i+1 || mark < 1<<21) && !bytes.Equal(b, make([]byte, d.Size())) {
			t.Errorf("slot %d is torn", i)
		}
	}
}

func TestOpenCleans(t *testing.T) { // P12.1
	for slot := range slots {
		p, d := formatted(t)
		for page := 1; page <= 3; page++ {
			take(t, p, page)
		}
		want(t, "Commit", p.Commit(), api.OK)
		b, _ := d.Read(2 + slot)
		b[size-1] ^= 1
		put(t, d, 2+slot, b)
		taken := 0
		if slot > 3 {
			taken = 3
		}
		if p := open(t, d); p.Taken() != taken {
			t.Errorf("slot %d is torn: %d pages are taken", slot, p.Taken())
		}
		wantClean(t, d)
	}
}

// TestOpenTakesTheGreatestHead lays sectors beside heads that are none.
func TestOpenTakesTheGreatestHead(t *testing.T) { // P12.1
	for what, heads := range map[string][2]int{"the other sector": {1, 2}, "too great": {maxEpoch + 2, maxEpoch + 1}} {
		d := disk.New(sectors, size)
		for at, mark := range heads {
			put(t, d, at, head(t, d, mark, nil))
		}
		if p, e := pool.Open(d); p != nil || e != api.ErrForm {
			t.Errorf("%s: Open tells %v, %d", what, p, e)
		}
	}
	d := disk.New(sectors, size)
	torn := head(t, d, 2, nil)
	torn[size-1]--
	put(t, d, 0, torn)
	put(t, d, 1, head(t, d, 3, []byte{1}))
	if p, e := pool.Open(d); p != nil || e != api.ErrForm {
		t.Errorf("a torn head, one with a load: Open tells %v, %d", p, e)
	}
	for _, at := range []int{0, 1} {
		d := disk.New(sectors, size)
		p := format(t, d)
		for range at {
			want(t, "Checkpoint", p.Checkpoint(), api.OK)
		}
		take(t, p, 1)
		want(t, "Commit", p.Commit(), api.OK)
		now := epoch(t, d)
		put(t, d, (now+1)%2, head(t, d, now+1, []byte{1}))
		if q := open(t, d); q.Taken() != 1 || epoch(t, d) != now+1 {
			t.Errorf("%d pages taken, the epoch is %d, was %d", q.Taken(), epoch(t, d), now)
		}
	}
	d = disk.New(sectors, size) // a head without all else, as if it had been formatted
	put(t, d, 1, head(t, d, 1<<40-1, nil))
	wantBlank(t, open(t, d))
}

// TestOpenOfWhatIsNone lays wrong numbers where a pool's state stands, wherever that is: nothing is promised of what is there then, but that calls end.
func TestOpenOfWhatIsNone(t *testing.T) { // R1
	for _, n := range []uint64{0, 1, 2, 3, 16, 17, 18, 255, 1 << 31, 1 << 62, 1 << 63, math.MaxUint64} {
		for at := 0; at < 96; at += 8 {
			for given, link := range []uint64{0, 1, 2, 3, math.MaxUint64} {
				d := disk.New(sectors, size)
				p := format(t, d)
				take(t, p, 1)
				take(t, p, 2)
				take(t, p, 3)
				for page := range min(given, 2) {
					want(t, "Give", p.Give(page+1), api.OK)
				}
				want(t, "Commit", p.Commit(), api.OK)
				want(t, "Checkpoint", p.Checkpoint(), api.OK)
				for place, n := range map[int]struct {
					at int
					n  uint64
				}{2 + slots: {at, n}, 2 + slots + 2: {0, link}} {
					b, _ := d.Read(place)
					binary.LittleEndian.PutUint64(b[n.at:], n.n)
					put(t, d, place, b)
				}
				use(t, d)
			}
		}
	}
	for _, page := range []int{18, 19, maxRoot} {
		d := disk.New(sectors, size)
		format(t, d)
		l, _ := log.Start(d, 2, slots, epoch(t, d))
		want(t, "Append", l.Append([]log.Change{{Page: page, Load: load(1, 1)}}), api.OK)
		use(t, d)
		wantBlank(t, format(t, d))
	}
}

// use opens what may be no pool, and uses it, if it is one.
func use(t *testing.T, d *disk.Disk) {
	t.Helper()
	before := bytesOf(t, d)
	p, e := pool.Open(d)
	if e != api.OK {
		if p != nil || e != api.ErrForm || !bytes.Equal(bytesOf(t, d), before) {
			t.Errorf("Open of what is no pool: %v, %d", p, e)
		}
		return
	}
	if n := p.Taken(); n < 0 || n >= p.Pages() {
		t.Errorf("%d pages are taken", n)
	}
	for k := range 8 {
		if n := p.Root(k); n < 0 || n > maxRoot {
			t.Errorf("root %d is %d", k, n)
		}
	}
	for range 40 {
		if n, e := p.Take(); e == api.OK && (n < 1 || n >= p.Pages()) {
			t.Errorf("page %d is taken", n)
		}
	}
	for page := range 40 {
		if _, e := p.Read(page); e != api.OK && e != api.ErrNone {
			t.Errorf("Read(%d): %d", page, e)
		}
		p.Give(page)
	}
	p.Commit()
}

func TestWhichPageIsTaken(t *testing.T) { // P12.2
	p, d := formatted(t)
	for page := 1; page <= 5; page++ {
		take(t, p, page)
	}
	for _, page := range []int{2, 4, 1} {
		want(t, "Give", p.Give(page), api.OK)
		wantNoPage(t, p, page)
		want(t, "Give of a page that was given", p.Give(page), api.ErrNone)
	}
	if p.Taken() != 2 {
		t.Errorf("%d pages taken", p.Taken())
	}
	take(t, p, 1)
	want(t, "Give", p.Give(5), api.OK)
	want(t, "Commit", p.Commit(), api.OK)
	p = open(t, d)
	for _, page := range []int{5, 4, 2, 6, 7} {
		take(t, p, page)
	}
	want(t, "Give", p.Give(7), api.OK)
	want(t, "Give", p.Give(6), api.OK)
	want(t, "Back", p.Back(), api.OK)
	for _, page := range []int{5, 4, 2, 6} {
		take(t, p, page)
	}
	for page := 7; page < 18; page++ {
		take(t, p, page)
	}
	if n, e := p.Take(); n != 0 || e != api.ErrFull || p.Taken() != 17 {
		t.Errorf("Take, where all are taken: %d, %d; %d taken", n, e, p.Taken())
	}
	want(t, "Give", p.Give(9), api.OK)
	take(t, p, 9)
	want(t, "Take", second(p.Take()), api.ErrFull)
}

// second is the error of a call that tells something beside.
func second[V any](_ V, e api.Errno) api.Errno { return e }

func TestWrite(t *testing.T) { // P12.2
	p, d := formatted(t)
	take(t, p, 1)
	take(t, p, 2)
	for _, n := range []int{room, 5, 0, room - 1, 1} {
		want(t, "Write", p.Write(1, load(8, n)[:n]), api.OK)
		wantPage(t, p, 1, load(8, n))
		want(t, "Commit", p.Commit(), api.OK)
		wantPage(t, p, 1, load(8, n))
		wantPage(t, p, 2, load(0, 0))
	}
	for _, page := range []int{0, -1, 3, 17, 18, math.MinInt, math.MaxInt} {
		want(t, "Write", p.Write(page, nil), api.ErrNone)
		want(t, "Write", p.Write(page, make([]byte, room+1)), api.ErrNone)
		want(t, "Give", p.Give(page), api.ErrNone)
		wantNoPage(t, p, page)
	}
	want(t, "Write", p.Write(1, make([]byte, room+1)), api.ErrSize)
	want(t, "Write", p.Write(1, make([]byte, size)), api.ErrSize)
	wantPage(t, p, 1, load(8, 1))
	want(t, "Checkpoint: a wrong Write changes nothing", p.Checkpoint(), api.OK)
	want(t, "Write", p.Write(2, load(3, 3)), api.OK)
	want(t, "Give", p.Give(2), api.OK)
	take(t, p, 2)
	want(t, "Commit", p.Commit(), api.OK)
	wantPage(t, open(t, d), 2, load(0, 0))
}

func TestRoots(t *testing.T) { // P12.2
	p, d := formatted(t)
	for k := range 8 {
		want(t, "SetRoot", p.SetRoot(k, maxRoot-k), api.OK)
	}
	want(t, "SetRoot", p.SetRoot(3, 0), api.OK)
	for _, c := range []struct{ k, n int }{{-1, 1}, {8, 1}, {math.MinInt, 1}, {math.MaxInt, 1}, {1, -1}, {1, maxRoot + 1}, {1, math.MinInt}, {1, math.MaxInt}, {8, -1}} {
		want(t, "SetRoot", p.SetRoot(c.k, c.n), api.ErrRange)
	}
	for range 3 {
		for k := -1; k <= 8; k++ {
			n := maxRoot - k
			if k == -1 || k == 3 || k == 8 {
				n = 0
			}
			if p.Root(k) != n {
				t.Errorf("root %d is %d, want %d", k, p.Root(k), n)
			}
		}
		if p.Root(math.MinInt) != 0 || p.Root(math.MaxInt) != 0 {
			t.Error("there is a root that there is not")
		}
		want(t, "Commit", p.Commit(), api.OK)
		p = open(t, d)
	}
	want(t, "SetRoot", p.SetRoot(0, 5), api.OK)
	want(t, "Back", p.Back(), api.OK)
	if p.Root(0) != maxRoot {
		t.Error("Back does not take a root back")
	}
	want(t, "SetRoot", p.SetRoot(9, 5), api.ErrRange)
	want(t, "Checkpoint: a wrong SetRoot changes nothing", p.Checkpoint(), api.OK)
}

// TestCommitIsAGroup tells which pages are one, by the log that it writes.
func TestCommitIsAGroup(t *testing.T) { // P12.3
	p, d := formatted(t)
	want(t, "Commit of nothing", p.Commit(), api.OK)
	wantGroups(t, d)
	for range 5 {
		second(p.Take())
	}
	want(t, "Commit", p.Commit(), api.OK)
	wantGroups(t, d, []int{0, 1, 2, 3, 4, 5})
	for _, c := range []struct {
		what  string
		do    func()
		pages []int
	}{
		{"Write", func() { p.Write(3, nil); p.Write(2, nil); p.Write(3, load(1, 1)) }, []int{2, 3}},
		{"Write of the same", func() { p.Write(3, load(1, 1)) }, []int{3}},
		{"SetRoot", func() { p.SetRoot(1, 1) }, []int{0}},
		{"SetRoot to the same", func() { p.SetRoot(1, 1) }, []int{0}},
		{"Take", func() { p.Take() }, []int{0, 6}},
		{"Give", func() { p.Give(2); p.Give(4) }, []int{0, 2, 4}},
		{"Give and Take", func() { p.Give(5); p.Take() }, []int{0, 5}},
		{"Take and Give", func() { p.Take(); p.Give(4) }, []int{0, 4}},
		{"Take and Give of a new one", func() { p.Take(); p.Take(); p.Take(); p.Give(7) }, []int{0, 2, 4, 7}},
		{"Write and Give", func() { p.Write(4, load(1, 1)); p.Give(4) }, []int{0, 4}},
		{"what was taken back", func() { p.Take(); p.Write(1, nil); p.SetRoot(1, 9); p.Back(); p.Write(3, nil) }, []int{3}},
		{"what is wrong", func() { p.Write(1, make([]byte, room+1)); p.SetRoot(8, 1); p.Give(4); p.Write(3, nil) }, []int{3}},
	} {
		want(t, "Checkpoint", p.Checkpoint(), api.OK)
		wantGroups(t, d)
		c.do()
		want(t, c.what, p.Commit(), api.OK)
		if got := groups(t, d); len(got) != 1 || !slices.Equal(got[0], c.pages) || d.Loose() != 0 {
			t.Errorf("%s: groups of the pages %v, want %v", c.what, got, c.pages)
		}
		want(t, "Commit of nothing more", p.Commit(), api.OK)
		if got := groups(t, d); len(got) != 1 {
			t.Errorf("%s: groups of the pages %v", c.what, got)
		}
	}
}

// TestCommitOfTooMuch has one page more than the log has slots.
func TestCommitOfTooMuch(t *testing.T) { // P12.3
	p, d := formatted(t)
	for page := 1; page <= 5; page++ {
		take(t, p, page)
		want(t, "Write", p.Write(page, load(byte(page), page)), api.OK)
	}
	want(t, "Give", p.Give(3), api.OK)
	want(t, "SetRoot", p.SetRoot(0, 7), api.OK)
	want(t, "Commit of as many as there are slots", p.Commit(), api.OK)
	now := epoch(t, d)
	before := bytesOf(t, d)
	check := func(p *pool.Pool) {
		t.Helper()
		if p.Taken() != 4 || p.Root(0) != 7 || p.Dead() {
			t.Errorf("%d pages taken, root %d, dead: %t", p.Taken(), p.Root(0), p.Dead())
		}
		for _, page := range []int{1, 2, 4, 5} {
			wantPage(t, p, page, load(byte(page), page))
		}
		wantNoPage(t, p, 3)
		wantNoPage(t, p, 6)
	}
	for _, do := range []func(){
		func() {
			p.SetRoot(0, 8)
			p.Take()
			p.Take()
			p.Write(1, nil)
			p.Write(2, nil)
			p.Give(4)
			p.Give(5)
		},
		func() {
			p.Take()
			p.Take()
			p.Take()
			p.Take()
			p.Take()
			p.Take()
		},
		func() {
			for n, e := p.Take(); e == api.OK; n, e = p.Take() {
				p.Write(n, load(1, room))
			}
		},
	} {
		do()
		want(t, "Commit of one more", p.Commit(), api.ErrFull)
		check(p)
		want(t, "Checkpoint: nothing is changed", p.Commit(), api.OK)
		if epoch(t, d) != now || !bytes.Equal(bytesOf(t, d), before) {
			t.Error("a commit that is not made writes")
		}
	}
	d.Arm(1)
	d.Flush()
	p.Write(1, nil)
	for range 6 {
		p.Take()
	}
	want(t, "Commit of one more on a disk that is down", p.Commit(), api.ErrFull)
	check(p)
	d.Crash(nil)
	p = open(t, d)
	check(p)
	take(t, p, 3)
	take(t, p, 6)
}

// TestCheckpointComesFirst fills the log, and commits one page more than is left.
func TestCheckpointComesFirst(t *testing.T) { // P12.3
	p, d := formatted(t)
	take(t, p, 1)
	want(t, "Commit", p.Commit(), api.OK)
	now := epoch(t, d)
	for n := range 4 {
		want(t, "Write", p.Write(1, load(byte(n+1), 9)), api.OK)
		want(t, "Commit", p.Commit(), api.OK)
	}
	if epoch(t, d) != now || len(groups(t, d)) != 5 {
		t.Errorf("the epoch %d, was %d; groups %v", epoch(t, d), now, groups(t, d))
	}
	take(t, p, 2)
	want(t, "Write", p.Write(1, load(7, 7)), api.OK)
	want(t, "Commit", p.Commit(), api.OK)
	if epoch(t, d) != now+1 {
		t.Errorf("the epoch %d, was %d", epoch(t, d), now)
	}
	wantGroups(t, d, []int{0, 1, 2})
	wantPage(t, p, 1, load(7, 7))
	wantPage(t, p, 2, load(0, 0))
	q := open(t, d)
	wantPage(t, q, 1, load(7, 7))
	wantPage(t, q, 2, load(0, 0))
}

func TestCheckpoint(t *testing.T) { // P12.3
	p, d := formatted(t)
	for n := range 4 {
		now := epoch(t, d)
		want(t, "Checkpoint", p.Checkpoint(), api.OK)
		if epoch(t, d) != now+1 || d.Loose() != 0 {
			t.Errorf("the epoch %d, was %d", epoch(t, d), now)
		}
		wantGroups(t, d)
		for _, do := range []func(){
			func() { p.Take() }, func() { p.SetRoot(0, 0) }, func() { p.Write(1, load(0, 0)) }, func() { p.Give(1) }, func() { p.Take(); p.Give(n + 1) },
		} {
			do()
			e := p.Checkpoint()
			if n == 0 && p.Taken() == 0 && e == api.OK { // there was no page 1 to be changed
				continue
			}
			want(t, "Checkpoint of something that was changed", e, api.ErrState)
			want(t, "Back", p.Back(), api.OK)
			want(t, "Checkpoint of nothing", p.Checkpoint(), api.OK)
		}
		take(t, p, n+1)
		want(t, "Write", p.Write(n+1, load(byte(n), 5)), api.OK)
		want(t, "Commit", p.Commit(), api.OK)
	}
	want(t, "Checkpoint", p.Checkpoint(), api.OK)
	for _, p := range []*pool.Pool{p, open(t, d)} {
		for n := range 4 {
			wantPage(t, p, n+1, load(byte(n), 5))
		}
	}
}

// TestHowMuchIsWritten counts writes and flushes, by where an armed disk goes down.
func TestHowMuchIsWritten(t *testing.T) { // P12.1, P12.3
	p, d := formatted(t)
	steps := func(what string, n int, do func() api.Errno) {
		t.Helper()
		d.Arm(n + 1)
		want(t, what, do(), api.OK)
		if d.Down() {
			t.Fatalf("%s: more than %d writes and flushes", what, n)
		}
		want(t, what+": fewer writes and flushes", d.Flush(), api.ErrDown)
		d.Crash(nil)
	}
	steps("Commit of nothing", 0, p.Commit)
	steps("Back", 0, p.Back)
	steps("Checkpoint of nothing", 3, p.Checkpoint)
	take(t, p, 1)
	take(t, p, 2)
	steps("Commit of three pages", 4, p.Commit)
	want(t, "Write", p.Write(1, nil), api.OK)
	steps("Commit of one page", 2, p.Commit)
	steps("Checkpoint of three pages", 6, p.Checkpoint)
	steps("Checkpoint of nothing", 3, p.Checkpoint)
	want(t, "Give", p.Give(1), api.OK)
	steps("Commit of two pages", 3, p.Commit)
	steps("Open: a flush, and a checkpoint of two pages", 6, func() api.Errno { return second(pool.Open(d)) })
	put(t, d, 4, bytes.Repeat([]byte{1}, size))
	steps("Open: a slot, a flush, and a checkpoint of nothing", 5, func() api.Errno { return second(pool.Open(d)) })
}

func TestBack(t *testing.T) { // P12.3
	p, d := formatted(t)
	for page := 1; page <= 4; page++ {
		take(t, p, page)
		want(t, "Write", p.Write(page, load(byte(page), page)), api.OK)
	}
	want(t, "Commit", p.Commit(), api.OK)
	want(t, "Give", p.Give(2), api.OK)
	want(t, "Commit", p.Commit(), api.OK)
	for round := range 3 {
		want(t, "Back of nothing", p.Back(), api.OK)
		want(t, "Write", p.Write(1, load(9, 9)), api.OK)
		want(t, "Give", p.Give(3), api.OK)
		want(t, "Give", p.Give(1), api.OK)
		for _, page := range []int{1, 3, 2, 5, 6} {
			take(t, p, page)
			want(t, "Write", p.Write(page, load(9, 9)), api.OK)
		}
		want(t, "Give", p.Give(6), api.OK)
		want(t, "Give", p.Give(2), api.OK)
		want(t, "SetRoot", p.SetRoot(1, 1), api.OK)
		want(t, "Back", p.Back(), api.OK)
		if p.Taken() != 3 || p.Root(1) != 0 {
			t.Errorf("%d pages taken, root %d", p.Taken(), p.Root(1))
		}
		for _, page := range []int{1, 3, 4} {
			wantPage(t, p, page, load(byte(page), page))
		}
		for _, page := range []int{2, 5, 6} {
			wantNoPage(t, p, page)
		}
		switch round {
		case 0:
			want(t, "Checkpoint", p.Checkpoint(), api.OK)
		case 1:
			p = open(t, d)
		}
	}
	take(t, p, 2)
	take(t, p, 5)
}

// TestDead lets the disk go down under each call that uses it.
func TestDead(t *testing.T) { // P12.2, P12.3
	for what, call := range map[string]func(p *pool.Pool) api.Errno{
		"Read":   func(p *pool.Pool) api.Errno { return second(p.Read(1)) },
		"Commit": func(p *pool.Pool) api.Errno { return p.Commit() },
		"Checkpoint": func(p *pool.Pool) api.Errno {
			p.Back()
			return p.Checkpoint()
		},
		"a checkpoint ahead of a commit": func(p *pool.Pool) api.Errno {
			for range 4 {
				p.Take()
			}
			return p.Commit()
		},
	} {
		p, d := formatted(t)
		take(t, p, 1)
		want(t, "Commit", p.Commit(), api.OK)
		want(t, "Checkpoint", p.Checkpoint(), api.OK)
		take(t, p, 2)
		want(t, "Commit", p.Commit(), api.OK)
		want(t, "SetRoot", p.SetRoot(0, 5), api.OK)
		d.Arm(1)
		d.Flush()
		if p.Dead() {
			t.Fatalf("%s: dead ahead of all", what)
		}
		want(t, what, call(p), api.ErrDown)
		for range 2 {
			if !p.Dead() {
				t.Errorf("%s: it is not dead", what)
			}
			n, e := p.Take()
			if n != 0 || e != api.ErrState {
				t.Errorf("%s: Take tells %d, %d", what, n, e)
			}
			want(t, "Write", p.Write(1, nil), api.ErrState)
			want(t, "Write of no page", p.Write(0, nil), api.ErrState)
			want(t, "Give", p.Give(1), api.ErrState)
			want(t, "Give of no page", p.Give(0), api.ErrState)
			want(t, "SetRoot", p.SetRoot(0, 1), api.ErrState)
			want(t, "SetRoot of no root", p.SetRoot(8, 1), api.ErrState)
			want(t, "Commit", p.Commit(), api.ErrState)
			want(t, "Back", p.Back(), api.ErrState)
			want(t, "Checkpoint", p.Checkpoint(), api.ErrState)
			wantNoPage(t, p, 0)
			if p.Pages() != 18 || p.Room() != room {
				t.Errorf("%s: %d pages of %d bytes", what, p.Pages(), p.Room())
			}
			d.Crash(nil)
		}
		p = open(t, d)
		if p.Taken() != 2 || p.Root(0) != 0 || p.Dead() {
			t.Errorf("%s: opened: %d taken, root %d", what, p.Taken(), p.Root(0))
		}
	}
}

// TestErrorsChangeNothing holds what a pool tells behind a commit that the disk refused against what it told ahead of it.
func TestErrorsChangeNothing(t *testing.T) { // R2
	for n := 1; n <= 12; n++ {
		p, d := formatted(t)
		for range 3 {
			p.Take()
		}
		want(t, "Commit", p.Commit(), api.OK)
		want(t, "Write", p.Write(1, load(7, 7)), api.OK)
		want(t, "Give", p.Give(2), api.OK)
		want(t, "SetRoot", p.SetRoot(2, 2), api.OK)
		d.Arm(n)
		e := p.Commit()
		if (e == api.OK) != !d.Down() {
			t.Fatalf("Arm(%d): Commit tells %d", n, e)
		}
		if p.Taken() != 2 || p.Root(2) != 2 || p.Dead() != d.Down() {
			t.Errorf("Arm(%d): %d taken, root %d, dead: %t", n, p.Taken(), p.Root(2), p.Dead())
		}
	}
}

func TestNilPool(t *testing.T) { // P12.3, R1
	var p *pool.Pool
	if p.Room() != 0 || p.Pages() != 0 || p.Taken() != 0 || p.Root(0) != 0 || p.Dead() {
		t.Error("a nil pool has something")
	}
	b, e := p.Read(1)
	n, f := p.Take()
	if b != nil || e != api.ErrArg || n != 0 || f != api.ErrArg {
		t.Errorf("Read %x, %d; Take %d, %d", b, e, n, f)
	}
	for what, e := range map[string]api.Errno{"Write": p.Write(1, nil), "Give": p.Give(1), "SetRoot": p.SetRoot(0, 0), "Commit": p.Commit(), "Back": p.Back(), "Checkpoint": p.Checkpoint()} {
		want(t, what, e, api.ErrArg)
	}
}

func TestMemoryIsNotShared(t *testing.T) { // R4
	p, d := formatted(t)
	take(t, p, 1)
	all := bytes.Repeat([]byte{5}, 2*room)
	want(t, "Write", p.Write(1, all[:3]), api.OK)
	if !bytes.Equal(all, bytes.Repeat([]byte{5}, 2*room)) {
		t.Error("Write changes what was handed in")
	}
	clear(all)
	for _, do := range []func() api.Errno{func() api.Errno { return api.OK }, p.Commit, p.Checkpoint} {
		want(t, "Commit, Checkpoint", do(), api.OK)
		for range 2 {
			b, e := p.Read(1)
			if e != api.OK || !bytes.Equal(b, load(5, 3)) {
				t.Fatalf("Read: %s, %d", short(b), e)
			}
			for i := range b {
				b[i] = 9
			}
			_ = append(b, 9, 9, 9)
		}
	}
	wantPage(t, open(t, d), 1, load(5, 3))
}

// TestSameBytes makes many changes at once, in several pools: their disks are alike, also behind a crash in a checkpoint, whatever the order is in which maps are gone through.
func TestSameBytes(t *testing.T) { // R5
	var wants []byte
	for range 8 {
		d := disk.New(400, size)
		p := format(t, d)
		for page := 1; page <= 60; page++ {
			take(t, p, page)
			want(t, "Write", p.Write(page, load(byte(page), page)), api.OK)
		}
		want(t, "Commit", p.Commit(), api.OK)
		for page := 1; page < 60; page += 2 {
			want(t, "Give", p.Give(page), api.OK)
		}
		want(t, "Commit", p.Commit(), api.OK)
		d.Arm(40)
		want(t, "Checkpoint", p.Checkpoint(), api.ErrDown)
		d.Crash([]int{1, 0, 1, 1, 0, 0, 0, 1})
		got := bytesOf(t, d)
		if wants == nil {
			wants = got
		}
		if !bytes.Equal(got, wants) {
			t.Fatal("pools to which the same was done have not the same bytes")
		}
	}
}

// TestExamples are the chapter's.
func TestExamples(t *testing.T) {
	p, d := formatted(t)
	take(t, p, 1)
	take(t, p, 2)
	want(t, "Give", p.Give(1), api.OK)
	take(t, p, 1)
	want(t, "Commit", p.Commit(), api.OK)
	if p = open(t, d); p.Taken() != 2 {
		t.Errorf("%d pages are taken", p.Taken())
	}
	want(t, "Write", p.Write(1, load(3, 3)), api.OK)
	want(t, "Back", p.Back(), api.OK)
	wantPage(t, p, 1, load(0, 0))
}
