package log_test

import (
	"bytes"
	"encoding/binary"
	"math"
	"math/rand"
	"reflect"
	"slices"
	"testing"

	"waywiser/api"
	"waywiser/disk"
	"waywiser/frame"
	"waywiser/log"
)

const (
	size     = 64
	room     = 19
	maxPage  = 1<<31 - 1
	maxEpoch = 1 << 40
)

// load is a page's load, all c.
func load(c byte) []byte { return bytes.Repeat([]byte{c}, room) }

// change is one of a page, whose load is all c.
func change(page int, c byte) log.Change { return log.Change{Page: page, Load: load(c)} }

// mark is that of slot i in an epoch.
func mark(epoch, i int) int { return 1<<21*epoch + i + 1 }

// slot is a sector with a mark that holds a change, by the chapter's words, also such as may not be.
func slot(t *testing.T, mark int, page uint64, flag byte, l []byte) []byte {
	t.Helper()
	b := binary.LittleEndian.AppendUint64(nil, page)
	sector, e := frame.Build(size, mark, append(append(b, flag), l...))
	if e != api.OK {
		t.Fatalf("Build with the mark %d: %d", mark, e)
	}
	return sector
}

// put writes a sector, and flushes.
func put(t *testing.T, d *disk.Disk, at int, b []byte) {
	t.Helper()
	want(t, "Write", d.Write(at, b), api.OK)
	want(t, "Flush", d.Flush(), api.OK)
}

// want fails, if a call did not tell e.
func want(t *testing.T, what string, got, e api.Errno) {
	t.Helper()
	if got != e {
		t.Errorf("%s: %d, want %d", what, got, e)
	}
}

// wantGroups fails, if Read does not tell these.
func wantGroups(t *testing.T, what string, d *disk.Disk, first, count, epoch int, groups ...[]log.Change) {
	t.Helper()
	got, e := log.Read(d, first, count, epoch)
	if e != api.OK || len(got) != len(groups) {
		t.Fatalf("%s: Read tells %v, %d; want %v", what, got, e, groups)
	}
	for i, g := range groups {
		if !reflect.DeepEqual(got[i], g) {
			t.Errorf("%s: group %d is %v, want %v", what, i, got[i], g)
		}
	}
}

// started is a log.
func started(t *testing.T, d *disk.Disk, first, count, epoch int) *log.Log {
	t.Helper()
	l, e := log.Start(d, first, count, epoch)
	if e != api.OK || l == nil {
		t.Fatalf("Start(%d, %d, %d): %d", first, count, epoch, e)
	}
	return l
}

// sectors are all bytes of a disk.
func sectors(t *testing.T, d *disk.Disk) [][]byte {
	t.Helper()
	var out [][]byte
	for at := range d.Sectors() {
		b, e := d.Read(at)
		want(t, "Read", e, api.OK)
		out = append(out, b)
	}
	return out
}

func TestRoom(t *testing.T) { // P11.1
	for size, want := range map[int]int{64: 19, 65: 20, 512: 467, 4096: 4051} {
		if got := log.Room(size); got != want || got != frame.Room(size)-9 {
			t.Errorf("Room(%d): %d, want %d", size, got, want)
		}
	}
}

// TestWhereNoLogStands asks each call that takes a place for such as can't be.
func TestWhereNoLogStands(t *testing.T) { // P11.1, P11.2
	d := disk.New(8, size)
	for _, down := range []bool{false, true} {
		if down {
			d.Arm(1)
			d.Flush()
		}
		for _, c := range []struct {
			d                   *disk.Disk
			first, count, epoch int
		}{
			{nil, 0, 1, 1}, {d, -1, 1, 1}, {d, math.MinInt, 1, 1}, {d, 0, 0, 1}, {d, 0, -1, 1}, {d, 0, math.MinInt, 1},
			{d, 0, 9, 1}, {d, 1, 8, 1}, {d, 7, 2, 1}, {d, 8, 1, 1}, {d, math.MaxInt, 1, 1}, {d, math.MaxInt, math.MaxInt, 1},
			{d, 0, math.MaxInt, 1}, {d, 0, 1<<20 + 1, 1}, {d, 1, math.MaxInt, 1}, {d, -1, math.MaxInt, 1}, {d, math.MinInt, math.MaxInt, 1},
		} {
			groups, e := log.Read(c.d, c.first, c.count, c.epoch)
			want(t, "Read", e, api.ErrArg)
			n, f := log.Latest(c.d, c.first, c.count)
			want(t, "Latest", f, api.ErrArg)
			l, g := log.Start(c.d, c.first, c.count, c.epoch)
			want(t, "Start", g, api.ErrArg)
			want(t, "Clean", log.Clean(c.d, c.first, c.count), api.ErrArg)
			if groups != nil || n != 0 || l != nil {
				t.Errorf("%v: %v, %d, %v beside an error", c, groups, n, l)
			}
		}
		for _, epoch := range []int{0, -1, maxEpoch + 1, math.MaxInt, math.MinInt} {
			groups, e := log.Read(d, 0, 8, epoch)
			want(t, "Read", e, api.ErrArg)
			l, e := log.Start(d, 0, 8, epoch)
			want(t, "Start", e, api.ErrArg)
			if groups != nil || l != nil {
				t.Errorf("epoch %d: %v, %v beside an error", epoch, groups, l)
			}
		}
	}
}

func TestWhereLogsStand(t *testing.T) { // P11.1, P11.2
	d := disk.New(8, size)
	for _, c := range []struct{ first, count, epoch int }{{0, 8, 1}, {7, 1, maxEpoch}, {0, 1, 5}, {3, 5, 2}} {
		wantGroups(t, "a fresh disk", d, c.first, c.count, c.epoch)
		if n, e := log.Latest(d, c.first, c.count); n != 0 || e != api.OK {
			t.Errorf("Latest of a fresh disk: %d, %d", n, e)
		}
		want(t, "Clean", log.Clean(d, c.first, c.count), api.OK)
		if l := started(t, d, c.first, c.count, c.epoch); l.Left() != c.count || l.Dead() {
			t.Errorf("Start: %d slots are left, want %d", l.Left(), c.count)
		}
	}
	great := disk.New(1<<20, size)
	l := started(t, great, 0, 1<<20, maxEpoch)
	want(t, "Append", l.Append([]log.Change{change(3, 1)}), api.OK)
	put(t, great, 1<<20-1, slot(t, mark(maxEpoch, 1<<20-1), 0, 1, load(2)))
	put(t, great, 1<<19, []byte(string(make([]byte, size-1))+"x"))
	wantGroups(t, "the greatest log", great, 0, 1<<20, maxEpoch, []log.Change{change(3, 1)})
	want(t, "Clean", log.Clean(great, 0, 1<<20), api.OK)
	if b, _ := great.Read(1 << 19); b[size-1] != 0 {
		t.Error("Clean leaves a slot in the midst of the greatest log")
	}
	if n, e := log.Latest(great, 1, 1<<20-1); n != 0 || e != api.OK {
		t.Errorf("Latest, a slot further: %d, %d", n, e)
	}
	if n, e := log.Latest(great, 0, 1<<20); n != maxEpoch || e != api.OK {
		t.Errorf("Latest: %d, %d", n, e)
	}
}

func TestDownDisk(t *testing.T) { // P11.1, P11.2
	d := disk.New(4, size)
	l := started(t, d, 0, 4, 1)
	d.Arm(1)
	d.Flush()
	groups, e := log.Read(d, 0, 4, 1)
	want(t, "Read", e, api.ErrDown)
	n, e := log.Latest(d, 0, 4)
	want(t, "Latest", e, api.ErrDown)
	want(t, "Clean", log.Clean(d, 0, 4), api.ErrDown)
	if groups != nil || n != 0 {
		t.Errorf("%v, %d beside an error", groups, n)
	}
	started(t, d, 0, 4, 1)
	want(t, "Append: wrong, ahead of the disk", l.Append(nil), api.ErrArg)
	want(t, "Append", l.Append([]log.Change{change(0, 1)}), api.ErrDown)
	if !l.Dead() {
		t.Error("a log whose disk is down is not dead")
	}
}

func TestNilLog(t *testing.T) { // P11.2, R1
	var l *log.Log
	want(t, "Append", l.Append([]log.Change{change(0, 1)}), api.ErrArg)
	want(t, "Append of nothing", l.Append(nil), api.ErrArg)
	if l.Left() != 0 || l.Dead() {
		t.Error("a nil log has slots left, or is dead")
	}
}

// TestSlots holds what Append writes against the chapter's words, byte by byte.
func TestSlots(t *testing.T) { // P11.2
	for _, epoch := range []int{1, 2, 1 << 19, maxEpoch} {
		d := disk.New(9, size)
		l := started(t, d, 2, 6, epoch)
		want(t, "Append", l.Append([]log.Change{change(7, 1), change(0, 2), change(7, 3)}), api.OK)
		want(t, "Append", l.Append([]log.Change{change(maxPage, 4)}), api.OK)
		zero := make([]byte, size)
		wants := [][]byte{
			zero, zero,
			slot(t, mark(epoch, 0), 7, 0, load(1)), slot(t, mark(epoch, 1), 0, 0, load(2)), slot(t, mark(epoch, 2), 7, 1, load(3)),
			slot(t, mark(epoch, 3), maxPage, 1, load(4)), zero, zero, zero,
		}
		if got := sectors(t, d); !reflect.DeepEqual(got, wants) {
			t.Errorf("epoch %d: sectors %x, want %x", epoch, got, wants)
		}
		if d.Loose() != 0 || l.Left() != 2 {
			t.Errorf("%d loose writes, %d slots left; want 0, 2", d.Loose(), l.Left())
		}
		wantGroups(t, "there and back", d, 2, 6, epoch, []log.Change{change(7, 1), change(0, 2), change(7, 3)}, []log.Change{change(maxPage, 4)})
	}
}

func TestAppendRefuses(t *testing.T) { // P11.2, R2
	good, short, long := change(1, 1), log.Change{Page: 1, Load: load(1)[1:]}, log.Change{Page: 1, Load: append(load(1), 0)}
	low, high := log.Change{Page: -1}, log.Change{Page: maxPage + 1, Load: load(1)}
	d := disk.New(3, size)
	l := started(t, d, 0, 3, 1)
	want(t, "Append", l.Append([]log.Change{good}), api.OK)
	before := sectors(t, d)
	for _, c := range []struct {
		e     api.Errno
		group []log.Change
	}{
		{api.ErrArg, nil}, {api.ErrArg, []log.Change{}}, {api.ErrArg, []log.Change{low}}, {api.ErrArg, []log.Change{good, high}},
		{api.ErrArg, []log.Change{{Page: math.MinInt, Load: load(1)}}}, {api.ErrArg, []log.Change{{Page: math.MaxInt, Load: load(1)}}},
		{api.ErrArg, []log.Change{short, low}}, {api.ErrArg, []log.Change{good, good, good, high}},
		{api.ErrSize, []log.Change{short}}, {api.ErrSize, []log.Change{good, long}}, {api.ErrSize, []log.Change{{Page: 1}}},
		{api.ErrSize, []log.Change{good, good, good, short}},
		{api.ErrFull, []log.Change{good, good, good}}, {api.ErrFull, slices.Repeat([]log.Change{good}, 100)},
	} {
		want(t, "Append", l.Append(c.group), c.e)
		if l.Left() != 2 || l.Dead() || d.Loose() != 0 || !reflect.DeepEqual(sectors(t, d), before) {
			t.Fatalf("an Append that told %d did something", c.e)
		}
	}
	want(t, "Append of as many as are left", l.Append([]log.Change{good, good}), api.OK)
	want(t, "Append behind the end", l.Append([]log.Change{good}), api.ErrFull)
	want(t, "Append behind the end", l.Append([]log.Change{short}), api.ErrSize)
	if l.Left() != 0 || l.Dead() {
		t.Errorf("%d slots left, dead: %t", l.Left(), l.Dead())
	}
	wantGroups(t, "a full log", d, 0, 3, 1, []log.Change{good}, []log.Change{good, good})
}

func TestDeadLog(t *testing.T) { // P11.2
	group := []log.Change{change(1, 1), change(2, 2), change(3, 3)}
	for n := 1; n <= 4; n++ {
		d := disk.New(8, size)
		l := started(t, d, 0, 8, 1)
		want(t, "Append", l.Append(group[:1]), api.OK)
		d.Arm(n)
		want(t, "Append", l.Append(group), api.ErrDown)
		if !l.Dead() || l.Left() != 7 || d.Loose() != min(n, 3) {
			t.Errorf("Arm(%d): dead: %t, %d left, %d loose writes", n, l.Dead(), l.Left(), d.Loose())
		}
		want(t, "Append to a dead log", l.Append(group), api.ErrState)
		want(t, "Append of nothing to a dead log", l.Append(nil), api.ErrState)
		d.Crash([]int{1, 1, size})
		want(t, "Append to a dead log, behind a crash", l.Append(group), api.ErrState)
		if d.Loose() != 0 {
			t.Error("a dead log writes")
		}
	}
	d := disk.New(8, size)
	l := started(t, d, 0, 8, 1)
	d.Arm(5)
	want(t, "Append: three writes, one flush", l.Append(group), api.OK)
	want(t, "Append", l.Append(group), api.ErrDown)
}

func TestReadEnds(t *testing.T) { // P11.1
	e := maxEpoch - 1
	last := slot(t, mark(e, 2), 5, 1, load(5))
	for what, third := range map[string][]byte{
		"another epoch":       slot(t, mark(e-1, 2), 5, 1, load(5)),
		"the next epoch":      slot(t, mark(e+1, 2), 5, 1, load(5)),
		"another slot's mark": slot(t, mark(e, 3), 5, 1, load(5)),
		"a page too great":    slot(t, mark(e, 2), maxPage+1, 1, load(5)),
		"a page below 0":      slot(t, mark(e, 2), math.MaxUint64, 1, load(5)),
		"a page of 2^32 more": slot(t, mark(e, 2), 1<<32+5, 1, load(5)),
		"a flag of 2":         slot(t, mark(e, 2), 5, 2, load(5)),
		"a flag of 255":       slot(t, mark(e, 2), 5, 255, load(5)),
		"0":                   make([]byte, size),
		"torn":                append(slices.Clone(last[:40]), make([]byte, 24)...),
	} {
		d := disk.New(6, size)
		for i, b := range [][]byte{slot(t, mark(e, 0), 3, 1, load(3)), slot(t, mark(e, 1), 4, 0, load(4)), third, slot(t, mark(e, 3), 6, 1, load(6))} {
			put(t, d, i+1, b)
		}
		wantGroups(t, what, d, 1, 5, e, []log.Change{change(3, 3)})
		put(t, d, 3, last)
		wantGroups(t, "whole again", d, 1, 5, e, []log.Change{change(3, 3)}, []log.Change{change(4, 4), change(5, 5)}, []log.Change{change(6, 6)})
		wantGroups(t, "fewer slots", d, 1, 2, e, []log.Change{change(3, 3)})
		wantGroups(t, "none but changes of no whole group", d, 2, 1, e)
		wantGroups(t, "a slot further", d, 2, 4, e)
	}
}

// TestReadIsItsWords reads slots of all kinds, in any row.
func TestReadIsItsWords(t *testing.T) { // P11.1
	r := rand.New(rand.NewSource(1))
	const epoch, count = 7, 8
	for range 3000 {
		d := disk.New(count, size)
		var groups [][]log.Change
		var group []log.Change
		whole, latest := true, 0
		for i := range count {
			page, flag, c := r.Intn(9), r.Intn(2), byte(r.Intn(256))
			of, at := epoch, i
			switch r.Intn(24) {
			case 0:
				of = 1 + r.Intn(12)
			case 1:
				at = r.Intn(count)
			case 2:
				flag = 2
			case 3:
				of = 0
			}
			b := slot(t, mark(of, at), uint64(page), byte(flag), load(c))
			if at == i {
				latest = max(latest, of)
			}
			whole = whole && at == i && of == epoch && flag < 2
			put(t, d, i, b)
			if !whole {
				continue
			}
			group = append(group, change(page, c))
			if flag == 1 {
				groups, group = append(groups, group), nil
			}
		}
		wantGroups(t, "slots by chance", d, 0, count, epoch, groups...)
		if n, e := log.Latest(d, 0, count); n != latest || e != api.OK {
			t.Errorf("Latest: %d, %d; want %d", n, e, latest)
		}
	}
}

func TestLatest(t *testing.T) { // P11.1
	for _, c := range []struct {
		what string
		want int
		mark int
	}{
		{"the first epoch", 1, mark(1, 2)}, {"another slot's mark", 0, mark(9, 3)}, {"another slot's mark", 0, mark(9, 1)}, {"the last epoch", maxEpoch, mark(maxEpoch, 2)},
		{"no epoch", 0, mark(0, 2)}, {"an epoch too great", 0, mark(maxEpoch+1, 2)}, {"the greatest mark", 0, 1 << 62}, {"the least mark", 0, 1}, {"a great slot", 0, mark(2, 1<<20+2)},
	} {
		d := disk.New(5, size)
		put(t, d, 3, slot(t, c.mark, math.MaxUint64, 77, load(1))) // whatever its load is
		if n, e := log.Latest(d, 1, 4); n != c.want || e != api.OK {
			t.Errorf("%s: Latest tells %d, %d; want %d", c.what, n, e, c.want)
		}
	}
	d := disk.New(5, size)
	for i, epoch := range []int{3, 900, 4, 5} {
		put(t, d, i+1, slot(t, mark(epoch, i), 1, 1, load(1)))
	}
	if n, e := log.Latest(d, 1, 4); n != 900 || e != api.OK {
		t.Errorf("Latest tells %d, %d; want 900", n, e)
	}
	torn := slot(t, mark(900, 1), 1, 1, load(1))
	torn[30]++
	put(t, d, 2, torn)
	if n, e := log.Latest(d, 1, 4); n != 5 || e != api.OK {
		t.Errorf("Latest tells %d, %d; want 5", n, e)
	}
}

func TestClean(t *testing.T) { // P11.2
	zero := make([]byte, size)
	one := slices.Clone(zero)
	one[size-1] = 1
	torn := slot(t, mark(3, 1), 1, 1, load(1))
	torn[20]++
	for _, c := range []struct {
		what  string
		b     []byte
		stays bool
	}{
		{"0", zero, true}, {"a byte that is not 0", one, false}, {"torn", torn, false},
		{"a slot", slot(t, mark(3, 1), 1, 1, load(1)), true}, {"a slot of a great epoch", slot(t, mark(maxEpoch, 1), 1, 0, load(1)), true},
		{"a slot of another form", slot(t, mark(3, 1), math.MaxUint64, 9, load(1)), true},
		{"another slot's mark", slot(t, mark(3, 2), 1, 1, load(1)), false}, {"no epoch", slot(t, mark(0, 1), 1, 1, load(1)), false},
		{"an epoch too great", slot(t, mark(maxEpoch+1, 1), 1, 1, load(1)), false},
	} {
		d := disk.New(6, size)
		put(t, d, 0, one) // ahead of the log
		put(t, d, 2, c.b)
		put(t, d, 4, one)
		put(t, d, 5, one) // behind it
		d.Write(3, slot(t, mark(3, 2), 1, 1, load(2)))
		wants := sectors(t, d)
		wants[4] = zero
		if !c.stays {
			wants[2] = zero
		}
		want(t, "Clean", log.Clean(d, 1, 4), api.OK)
		if d.Loose() != 0 {
			t.Errorf("%s: Clean does not flush", c.what)
		}
		if got := sectors(t, d); !reflect.DeepEqual(got, wants) {
			t.Errorf("%s: %x, want %x", c.what, got, wants)
		}
	}
}

func TestCleanTellsTheDisksError(t *testing.T) { // P11.2
	for n := 1; n <= 4; n++ {
		d := disk.New(4, size)
		for _, at := range []int{0, 2} {
			put(t, d, at, bytes.Repeat([]byte{5}, size))
		}
		d.Arm(n)
		e := api.ErrDown
		if n > 3 {
			e = api.OK
		}
		want(t, "Clean", log.Clean(d, 0, 4), e)
	}
}

func TestMemoryIsNotShared(t *testing.T) { // R4
	d := disk.New(8, size)
	l := started(t, d, 0, 8, 1)
	all := bytes.Repeat([]byte{1}, 2*room)
	group := []log.Change{{Page: 1, Load: all[:room]}, change(2, 2), change(3, 3)}
	want(t, "Append", l.Append(group[:2]), api.OK)
	if !bytes.Equal(all, bytes.Repeat([]byte{1}, 2*room)) || !reflect.DeepEqual(group[1:], []log.Change{change(2, 2), change(3, 3)}) {
		t.Error("Append changes what was handed in")
	}
	all[0], group[1].Load[0], group[1].Page = 9, 9, 9
	want(t, "Append", l.Append([]log.Change{change(4, 4)}), api.OK)
	wants := [][]log.Change{{change(1, 1), change(2, 2)}, {change(4, 4)}}
	wantGroups(t, "behind a change of what was handed in", d, 0, 8, 1, wants...)
	got, _ := log.Read(d, 0, 8, 1)
	_ = append(got[0], change(8, 8))
	for _, g := range got {
		for i := range g {
			_ = append(g[i].Load, 8)
		}
	}
	if !reflect.DeepEqual(got, wants) {
		t.Error("lists of an answer share memory")
	}
	got[0][0].Load[0] = 7
	wantGroups(t, "behind a change of what was handed out", d, 0, 8, 1, wants...)
}

// TestCrash goes over the places where the disk may go down while groups are appended, and over what a crash may let be done, and by how much a slot may be torn.
func TestCrash(t *testing.T) { // P11.3
	groups := [][]log.Change{{change(1, 1)}, {change(2, 2), change(3, 3), change(4, 4)}, {change(5, 5), change(6, 6)}}
	old := disk.New(10, size)
	stale := started(t, old, 1, 8, 3)
	for range 3 {
		want(t, "Append", stale.Append([]log.Change{change(9, 9), change(8, 8)}), api.OK) // slots 6 and 7 are 0
	}
	for n := 1; n <= 10; n++ {
		for fates := range 4 {
			for torn := 0; torn <= size; torn++ {
				d := old.Copy()
				l := started(t, d, 1, 8, 4)
				d.Arm(n)
				sure := 0
				for sure < len(groups) && l.Append(groups[sure]) == api.OK {
					sure++
				}
				if loose := d.Loose(); loose > 1 {
					d.Crash(append([]int{fates & 1, fates >> 1}[:loose-1], torn))
				} else {
					d.Crash([]int{torn})
				}
				wantWhole(t, d, groups, sure)
				before, _ := log.Read(d, 1, 8, 4)
				want(t, "Clean", log.Clean(d, 1, 8), api.OK)
				wantGroups(t, "cleaned", d, 1, 8, 4, before...)
			}
		}
	}
}

// wantWhole fails, if a log of the epoch 4 does not hold the groups that are sure, and at most the next one.
func wantWhole(t *testing.T, d *disk.Disk, groups [][]log.Change, sure int) {
	t.Helper()
	got, e := log.Read(d, 1, 8, 4)
	if e != api.OK || len(got) < sure || len(got) > min(sure+1, len(groups)) {
		t.Fatalf("%d groups are sure: Read tells %v, %d", sure, got, e)
	}
	for i, g := range got {
		if !reflect.DeepEqual(g, groups[i]) {
			t.Errorf("group %d is %v, want %v", i, g, groups[i])
		}
	}
}

// TestCrashAfterCrash cleans between, and may go down then, too.
func TestCrashAfterCrash(t *testing.T) { // P11.3
	r := rand.New(rand.NewSource(2))
	for range 400 {
		d := disk.New(8, size)
		for epoch := 1; epoch < 12; epoch++ {
			d.Arm(r.Intn(4))
			for log.Clean(d, 0, 8) != api.OK {
				d.Crash([]int{r.Intn(2), r.Intn(2), r.Intn(size + 1)})
			}
			d.Arm(0)
			for i, b := range sectors(t, d) {
				if m, _, e := frame.Read(b); (e != api.OK || m%(1<<21) != i+1) && !bytes.Equal(b, make([]byte, size)) {
					t.Fatalf("Clean leaves slot %d", i)
				}
			}
			l := started(t, d, 0, 8, epoch)
			var all [][]log.Change
			sure := 0
			d.Arm(1 + r.Intn(16))
			for {
				var group []log.Change
				for range 1 + r.Intn(3) {
					group = append(group, change(r.Intn(5), byte(r.Intn(3)*epoch)))
				}
				e := l.Append(group)
				if e != api.ErrFull {
					all = append(all, group)
				}
				if e != api.OK {
					break
				}
				sure++
			}
			d.Crash([]int{r.Intn(2), r.Intn(2), r.Intn(size + 1)})
			got, e := log.Read(d, 0, 8, epoch)
			if e != api.OK || len(got) < sure || len(got) > len(all) || len(got) > 0 && !reflect.DeepEqual(got, all[:len(got)]) {
				t.Fatalf("epoch %d: %d groups are sure of %v: Read tells %v, %d", epoch, sure, all, got, e)
			}
		}
	}
}

// TestExamples are the chapter's.
func TestExamples(t *testing.T) {
	d := disk.New(4, size)
	l := started(t, d, 0, 4, 1)
	group := []log.Change{change(1, 1), change(2, 2)}
	want(t, "Append", l.Append(group), api.OK)
	wantGroups(t, "1", d, 0, 4, 1, group)
	d = disk.New(4, size)
	l = started(t, d, 0, 4, 1)
	d.Arm(2)
	want(t, "Append", l.Append(group), api.ErrDown)
	d.Crash([]int{1, size - 1})
	wantGroups(t, "2", d, 0, 4, 1)
}
