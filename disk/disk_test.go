package disk_test

import (
	"bytes"
	"math"
	"math/rand"
	"testing"

	"waywiser/api"
	"waywiser/disk"
)

const size = 64

// full is a sector's bytes, all c.
func full(c byte) []byte { return bytes.Repeat([]byte{c}, size) }

// upon is a sector of b, of whose first n bytes c stands.
func upon(c, b byte, n int) []byte {
	return append(bytes.Repeat([]byte{c}, n), bytes.Repeat([]byte{b}, size-n)...)
}

// wantSector fails, if sector at does not hold want.
func wantSector(t *testing.T, d *disk.Disk, at int, want []byte) {
	t.Helper()
	got, e := d.Read(at)
	if e != api.OK || !bytes.Equal(got, want) {
		t.Errorf("Read(%d): %x, %d; want %x", at, got, e, want)
	}
}

// want fails, if a call did not tell e.
func want(t *testing.T, what string, got, e api.Errno) {
	t.Helper()
	if got != e {
		t.Errorf("%s: %d, want %d", what, got, e)
	}
}

func TestNewHasEnds(t *testing.T) { // P1.1
	good := []struct{ sectors, size int }{{1, 64}, {1, 4096}, {7, 65}, {1 << 20, 64}, {1 << 20, 4096}}
	for _, c := range good {
		d := disk.New(c.sectors, c.size)
		if d == nil {
			t.Fatalf("New(%d, %d): nil", c.sectors, c.size)
		}
		if d.Sectors() != c.sectors || d.Size() != c.size || d.Loose() != 0 || d.Down() {
			t.Errorf("New(%d, %d): %d sectors of %d, %d loose", c.sectors, c.size, d.Sectors(), d.Size(), d.Loose())
		}
		for _, at := range []int{0, c.sectors - 1} {
			if b, e := d.Read(at); e != api.OK || !bytes.Equal(b, make([]byte, c.size)) {
				t.Errorf("New(%d, %d): sector %d is not 0", c.sectors, c.size, at)
			}
		}
	}
	bad := []struct{ sectors, size int }{{0, 64}, {-1, 64}, {math.MinInt, 64}, {1<<20 + 1, 64}, {math.MaxInt, 4096}, {1, 63}, {1, 4097}, {1, 0}, {1, -64}, {1, math.MinInt}, {1, math.MaxInt}, {0, 0}}
	for _, c := range bad {
		if disk.New(c.sectors, c.size) != nil {
			t.Errorf("New(%d, %d): not nil", c.sectors, c.size)
		}
	}
}

func TestReadTellsWhatWasWrittenLast(t *testing.T) { // P1.1
	d := disk.New(3, size)
	want(t, "Write", d.Write(1, full(1)), api.OK)
	wantSector(t, d, 1, full(1))
	want(t, "Write", d.Write(1, full(2)), api.OK)
	wantSector(t, d, 1, full(2))
	want(t, "Flush", d.Flush(), api.OK)
	wantSector(t, d, 1, full(2))
	want(t, "Write", d.Write(2, full(3)), api.OK)
	wantSector(t, d, 0, full(0))
	wantSector(t, d, 1, full(2))
	wantSector(t, d, 2, full(3))
}

func TestWrongCallsChangeNothing(t *testing.T) { // P1.1, R2
	d := disk.New(3, size)
	d.Write(1, full(1))
	for _, at := range []int{-1, 3, math.MinInt, math.MaxInt} {
		b, e := d.Read(at)
		want(t, "Read", e, api.ErrRange)
		if len(b) != 0 {
			t.Errorf("Read(%d): %x beside an error", at, b)
		}
		want(t, "Write", d.Write(at, full(2)), api.ErrRange)
		want(t, "Write: the first of two errors", d.Write(at, nil), api.ErrRange)
	}
	for _, n := range []int{0, 1, size - 1, size + 1, 4096} {
		want(t, "Write", d.Write(1, make([]byte, n)), api.ErrSize)
	}
	want(t, "Write", d.Write(1, nil), api.ErrSize)
	if d.Loose() != 1 || d.Down() {
		t.Errorf("%d loose writes, want 1", d.Loose())
	}
	wantSector(t, d, 1, full(1))
}

func TestBytesAreNotShared(t *testing.T) { // R4
	d := disk.New(2, size)
	room := bytes.Repeat([]byte{1}, 2*size)
	d.Write(0, room[:size])
	room[0] = 9
	wantSector(t, d, 0, full(1))
	b, _ := d.Read(0)
	b[0] = 9
	wantSector(t, d, 0, full(1))
	d.Flush()
	b, _ = d.Read(0)
	b[0] = 9
	wantSector(t, d, 0, full(1))
	b, _ = d.Read(1)
	b[0] = 9
	wantSector(t, d, 1, full(0))
	if room[0] != 9 || !bytes.Equal(room[1:], bytes.Repeat([]byte{1}, 2*size-1)) {
		t.Error("what was handed in was changed")
	}
	fates := []int{-3, 130, 7}
	d.Write(0, full(2))
	d.Crash(fates)
	if fates[0] != -3 || fates[1] != 130 || fates[2] != 7 {
		t.Error("the fates were changed")
	}
}

func TestLooseCountsWritesSinceTheFlush(t *testing.T) { // P1.2
	d := disk.New(2, size)
	for n := 1; n <= 5; n++ {
		d.Write(0, full(byte(n)))
		if d.Loose() != n {
			t.Errorf("%d loose writes, want %d", d.Loose(), n)
		}
	}
	d.Flush()
	if d.Loose() != 0 {
		t.Errorf("%d loose writes behind a flush", d.Loose())
	}
	d.Write(1, full(1))
	d.Crash(nil)
	if d.Loose() != 0 {
		t.Errorf("%d loose writes behind a crash", d.Loose())
	}
}

func TestArmCountsWritesAndFlushes(t *testing.T) { // P1.2
	for n := 1; n <= 6; n++ {
		d := disk.New(4, size)
		d.Write(3, full(7))
		d.Arm(n)
		for k := 1; k <= 6; k++ {
			d.Read(0)
			d.Write(9, full(1))
			d.Write(0, nil)
			var e api.Errno
			if k%3 == 0 {
				e = d.Flush()
			} else {
				e = d.Write(k%3, full(byte(k)))
			}
			if (e == api.OK) != (k < n) || d.Down() != (k >= n) || e != api.OK && e != api.ErrDown {
				t.Errorf("Arm(%d): step %d tells %d, down: %t", n, k, e, d.Down())
			}
		}
	}
}

func TestDownTellsErrDown(t *testing.T) { // P1.1, P1.2
	d := disk.New(2, size)
	d.Write(0, full(1))
	d.Flush()
	d.Arm(1)
	want(t, "Write", d.Write(1, full(2)), api.ErrDown)
	for range 2 {
		b, e := d.Read(0)
		want(t, "Read", e, api.ErrDown)
		if len(b) != 0 {
			t.Errorf("Read: %x beside an error", b)
		}
		_, e = d.Read(-1)
		want(t, "Read of no sector", e, api.ErrDown)
		want(t, "Write", d.Write(0, full(3)), api.ErrDown)
		want(t, "Write of no sector", d.Write(2, nil), api.ErrDown)
		want(t, "Flush", d.Flush(), api.ErrDown)
		d.Arm(0)
		d.Arm(5)
		if !d.Down() || d.Loose() != 1 || d.Sectors() != 2 || d.Size() != size {
			t.Errorf("down: %t, %d loose writes, want 1", d.Down(), d.Loose())
		}
	}
	d.Crash([]int{size})
	wantSector(t, d, 0, full(1))
	wantSector(t, d, 1, full(2))
	for range 8 { // the last Arm is over, too
		want(t, "Write behind the crash", d.Write(0, full(4)), api.OK)
	}
}

func TestFlushThatGoesDownIsNotDone(t *testing.T) { // P1.2
	d := disk.New(1, size)
	d.Write(0, full(1))
	d.Arm(1)
	want(t, "Flush", d.Flush(), api.ErrDown)
	if !d.Down() || d.Loose() != 1 {
		t.Errorf("down: %t, %d loose writes, want 1", d.Down(), d.Loose())
	}
	d.Crash(nil)
	wantSector(t, d, 0, full(0))
}

func TestArmAgain(t *testing.T) { // P1.2
	for _, n := range []int{0, -1, math.MinInt} {
		d := disk.New(1, size)
		d.Arm(2)
		d.Write(0, full(1))
		d.Arm(n)
		for range 4 {
			want(t, "Write, not armed any more", d.Write(0, full(2)), api.OK)
			want(t, "Flush, not armed any more", d.Flush(), api.OK)
		}
	}
	d := disk.New(1, size)
	d.Arm(2)
	d.Write(0, full(1))
	d.Arm(2)
	want(t, "Write, armed anew", d.Write(0, full(1)), api.OK)
	want(t, "Flush, armed anew", d.Flush(), api.ErrDown)
	d.Crash(nil)
	d.Arm(math.MaxInt)
	want(t, "Write, armed with much", d.Write(0, full(1)), api.OK)
}

func TestCrashIsNotArmedBehind(t *testing.T) { // P1.2
	d := disk.New(1, size)
	d.Arm(1)
	d.Crash(nil)
	want(t, "Write", d.Write(0, full(1)), api.OK)
	want(t, "Flush", d.Flush(), api.OK)
}

func TestLastLooseWriteIsTorn(t *testing.T) { // P1.2
	for _, flushed := range []bool{false, true} {
		for n := 0; n <= size; n++ {
			d, old := disk.New(1, size), byte(0)
			if flushed {
				old = 5
				d.Write(0, full(old))
				d.Flush()
			}
			d.Write(0, full(1))
			d.Crash([]int{n})
			wantSector(t, d, 0, upon(1, old, n))
		}
	}
	d := disk.New(2, size)
	d.Write(0, full(1))
	d.Crash(nil)
	wantSector(t, d, 0, full(0))
	d.Write(0, full(1))
	d.Flush()
	d.Crash([]int{0, 0})
	wantSector(t, d, 0, full(1))
}

func TestLooseWritesAreDoneUponOneAnother(t *testing.T) { // P1.2
	for fate, stands := range []byte{9, 1} {
		d := disk.New(1, size)
		d.Write(0, full(9))
		d.Flush()
		d.Write(0, full(1))
		d.Write(0, full(2))
		d.Crash([]int{fate, 3})
		wantSector(t, d, 0, upon(2, stands, 3))
	}
}

func TestFatesAreTakenModulo(t *testing.T) { // P1.2
	for _, c := range []struct{ first, last, done, torn int }{
		{2, size + 1, 0, 0}, {3, size + 2, 1, 1}, {-1, -1, 1, size}, {-2, -size - 1, 0, 0}, {-3, -size, 1, 1},
		{math.MinInt, 2 * (size + 1), 0, 0}, {math.MaxInt, size, 1, size},
	} {
		d := disk.New(2, size)
		d.Write(0, full(1))
		d.Write(1, full(2))
		d.Crash([]int{c.first, c.last, 77})
		wantSector(t, d, 0, upon(1, 0, c.done*size))
		wantSector(t, d, 1, upon(2, 0, c.torn))
	}
	d := disk.New(3, size)
	for at := range 3 {
		d.Write(at, full(1))
	}
	d.Crash([]int{1}) // there are fewer fates than choices
	wantSector(t, d, 0, full(1))
	wantSector(t, d, 1, full(0))
	wantSector(t, d, 2, full(0))
	for _, c := range []struct{ fate, torn int }{{math.MaxInt, 7}, {math.MinInt, 57}} { // 2^63 is 8 modulo 65
		d := disk.New(1, size)
		d.Write(0, full(3))
		d.Crash([]int{c.fate})
		wantSector(t, d, 0, upon(3, 0, c.torn))
	}
}

func TestWhatACrashLeavesIsFast(t *testing.T) { // P1.2, P1.3
	d := disk.New(2, size)
	d.Write(0, full(1))
	d.Write(1, full(2))
	d.Crash([]int{1, 5})
	d.Write(1, full(3))
	d.Crash(nil)
	wantSector(t, d, 0, full(1))
	wantSector(t, d, 1, upon(2, 0, 5))
}

func TestCopyHasNothingToDoWithIt(t *testing.T) { // P1.2
	d := disk.New(3, size)
	d.Write(0, full(1))
	d.Flush()
	d.Write(1, full(2))
	d.Arm(2)
	c := d.Copy()
	if c.Sectors() != 3 || c.Size() != size || c.Loose() != 1 || c.Down() {
		t.Fatal("a copy is not like it")
	}
	want(t, "Write", c.Write(0, full(7)), api.OK)
	want(t, "the copy is armed", c.Flush(), api.ErrDown)
	wantSector(t, d, 0, full(1))
	if d.Loose() != 1 || d.Down() {
		t.Error("what is done to a copy is done to the disk")
	}
	down := c.Copy()
	want(t, "the copy is down", down.Flush(), api.ErrDown)
	if !down.Down() || down.Loose() != 2 {
		t.Error("a copy is not down")
	}
	down.Crash([]int{1, size})
	if !c.Down() || c.Loose() != 2 {
		t.Error("what is done to a copy is done to the disk")
	}
	wantSector(t, down, 0, full(7))
	wantSector(t, down, 1, full(2))
	want(t, "Write", d.Write(2, full(3)), api.OK)
	want(t, "the disk is armed", d.Flush(), api.ErrDown)
	d.Crash([]int{0, size})
	c.Crash([]int{0, 2})
	wantSector(t, d, 0, full(1))
	wantSector(t, d, 1, full(0))
	wantSector(t, d, 2, full(3))
	wantSector(t, c, 0, upon(7, 1, 2))
	wantSector(t, c, 1, full(0))
	wantSector(t, c, 2, full(0))
}

func TestNilDisk(t *testing.T) { // P1.2, R1
	var d *disk.Disk
	if d.Sectors() != 0 || d.Size() != 0 || d.Loose() != 0 || d.Down() || d.Copy() != nil {
		t.Error("a nil disk has something")
	}
	b, e := d.Read(0)
	want(t, "Read", e, api.ErrArg)
	if len(b) != 0 {
		t.Error("a nil disk has bytes")
	}
	want(t, "Write", d.Write(0, full(1)), api.ErrArg)
	want(t, "Flush", d.Flush(), api.ErrArg)
	d.Arm(1)
	d.Crash([]int{1})
}

// model is a disk as the chapter's words have it, in the plainest way.
type model struct {
	fast  [][]byte
	loose []struct {
		at int
		b  []byte
	}
	armed int
	down  bool
}

func (m *model) strike() api.Errno {
	if m.armed--; m.armed == 0 {
		m.down = true
		return api.ErrDown
	}
	return api.OK
}

func (m *model) read(at int) ([]byte, api.Errno) {
	if m.down {
		return nil, api.ErrDown
	}
	b := m.fast[at]
	for _, w := range m.loose {
		if w.at == at {
			b = w.b
		}
	}
	return b, api.OK
}

func (m *model) write(at int, b []byte) api.Errno {
	if m.down {
		return api.ErrDown
	}
	m.loose = append(m.loose, struct {
		at int
		b  []byte
	}{at, b})
	return m.strike()
}

func (m *model) flush() api.Errno {
	if m.down || m.strike() != api.OK {
		return api.ErrDown
	}
	for _, w := range m.loose {
		m.fast[w.at] = w.b
	}
	m.loose = nil
	return api.OK
}

func (m *model) crash(fates []int) {
	for i, w := range m.loose {
		f, n := 0, 2
		if i < len(fates) {
			f = fates[i]
		}
		if i == len(m.loose)-1 {
			n = size + 1
		}
		f = (f%n + n) % n
		if n == 2 {
			f *= size
		}
		m.fast[w.at] = append(append([]byte{}, w.b[:f]...), m.fast[w.at][f:]...)
	}
	m.loose, m.armed, m.down = nil, 0, false
}

func TestDiskIsItsModel(t *testing.T) { // P1.1, P1.2
	r := rand.New(rand.NewSource(1))
	for round := range 300 {
		sectors := 1 + r.Intn(4)
		d, m := disk.New(sectors, size), &model{}
		for range sectors {
			m.fast = append(m.fast, make([]byte, size))
		}
		for step := range 80 {
			switch k := r.Intn(12); {
			case k < 6:
				at, b := r.Intn(sectors), make([]byte, size)
				r.Read(b)
				want(t, "Write", d.Write(at, b), m.write(at, b))
			case k < 8:
				want(t, "Flush", d.Flush(), m.flush())
			case k < 9:
				n := r.Intn(9) - 1
				d.Arm(n)
				m.armed = n
			case k < 10:
				fates := r.Perm(r.Intn(9))
				for i := range fates {
					fates[i] = r.Intn(400) - 200
				}
				d.Crash(fates)
				m.crash(fates)
			default:
				d = d.Copy()
			}
			if d.Loose() != len(m.loose) || d.Down() != m.down {
				t.Fatalf("round %d, step %d: %d loose, down: %t", round, step, d.Loose(), d.Down())
			}
			for at := range sectors {
				got, e := d.Read(at)
				b, f := m.read(at)
				if e != f || !bytes.Equal(got, b) {
					t.Fatalf("round %d, step %d: sector %d is %x, %d; want %x, %d", round, step, at, got, e, b, f)
				}
			}
		}
	}
}

// TestCrashKeepsWhatIsFast goes over all fates of all rows of three loose writes into two sectors.
func TestCrashKeepsWhatIsFast(t *testing.T) { // P1.3
	for row := range 8 {
		for fate := range 4 * (size + 1) {
			d := disk.New(2, size)
			was := [2][][]byte{}
			for at := range 2 {
				d.Write(at, full(byte(8+at)))
				was[at] = [][]byte{full(byte(8 + at))}
			}
			d.Flush()
			for k := range 3 {
				at := row >> k & 1
				d.Write(at, full(byte(1+k)))
				was[at] = append(was[at], full(byte(1+k)))
			}
			d.Crash([]int{fate & 1, fate >> 1 & 1, fate >> 2})
			torn := 0
			for at := range 2 {
				b, _ := d.Read(at)
				switch {
				case among(b, was[at]):
				case tornOf(b, was[at]):
					torn++
				default:
					t.Errorf("row %d, fate %d: sector %d is %x", row, fate, at, b)
				}
			}
			if torn > 1 {
				t.Errorf("row %d, fate %d: two sectors are torn", row, fate)
			}
		}
	}
}

// among: is b one of those?
func among(b []byte, all [][]byte) bool {
	for _, x := range all {
		if bytes.Equal(x, b) {
			return true
		}
	}
	return false
}

// tornOf: is b a first piece of one of those upon another?
func tornOf(b []byte, all [][]byte) bool {
	for _, x := range all {
		for _, y := range all {
			for n := range size {
				if bytes.Equal(b[:n], x[:n]) && bytes.Equal(b[n:], y[n:]) {
					return true
				}
			}
		}
	}
	return false
}
