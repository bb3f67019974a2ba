package frame_test

import (
	"bytes"
	"encoding/binary"
	"hash/crc32"
	"math"
	"math/rand"
	"slices"
	"testing"

	"waywiser/api"
	"waywiser/frame"
)

const maxMark = 1 << 62

// built is a sector by the chapter's words, also with a mark that may not be.
func built(size int, mark uint64, load []byte) []byte {
	b := binary.LittleEndian.AppendUint64(nil, mark)
	b = binary.LittleEndian.AppendUint64(b, ^mark)
	b = append(b, load...)
	b = append(b, make([]byte, size-20-len(b))...)
	b = binary.LittleEndian.AppendUint32(b, crc32.ChecksumIEEE(b))
	b = binary.LittleEndian.AppendUint64(b, mark)
	return binary.LittleEndian.AppendUint64(b, ^mark)
}

// random is so many bytes.
func random(r *rand.Rand, n int) []byte {
	b := make([]byte, n)
	r.Read(b)
	return b
}

// wantForm fails, if a sector is read.
func wantForm(t *testing.T, what string, sector []byte) {
	t.Helper()
	if mark, load, e := frame.Read(sector); e != api.ErrForm || mark != 0 || len(load) != 0 {
		t.Errorf("%s: Read tells %d, %x, %d", what, mark, load, e)
	}
}

func TestCheck(t *testing.T) { // P2.1
	for text, want := range map[string]uint32{"": 0, "123456789": 0xCBF43926, "a": 0xE8B7BE43, "\x00": 0xD202EF8D, "\xff\xff\xff\xff": 0xFFFFFFFF} {
		if got := frame.Check([]byte(text)); got != want {
			t.Errorf("Check(%q): %08X, want %08X", text, got, want)
		}
	}
	if frame.Check(nil) != 0 {
		t.Error("Check(nil) is not 0")
	}
	r := rand.New(rand.NewSource(1))
	for n := range 600 {
		b := random(r, n)
		if got, want := frame.Check(b), crc32.ChecksumIEEE(b); got != want {
			t.Errorf("Check of %d bytes: %08X, want %08X", n, got, want)
		}
	}
}

func TestRoom(t *testing.T) { // P2.1
	for size, want := range map[int]int{64: 28, 65: 29, 512: 476, 4096: 4060, 63: 0, 36: 0, 0: 0, -1: 0, 4097: 0, math.MinInt: 0, math.MaxInt: 0} {
		if got := frame.Room(size); got != want {
			t.Errorf("Room(%d): %d, want %d", size, got, want)
		}
	}
}

func TestBuildAndReadThereAndBack(t *testing.T) { // P2.1
	r := rand.New(rand.NewSource(2))
	for _, size := range []int{64, 65, 100, 512, 4095, 4096} {
		for _, mark := range []int{1, 2, 255, 256, 1<<21 + 1, 1 << 32, 1<<61 + 7, maxMark - 1, maxMark} {
			for _, n := range []int{0, 1, 27, 28, frame.Room(size) - 1, frame.Room(size)} {
				load := random(r, n)
				b, e := frame.Build(size, mark, load)
				if e != api.OK || !bytes.Equal(b, built(size, uint64(mark), load)) {
					t.Fatalf("Build(%d, %d, %x): %x, %d", size, mark, load, b, e)
				}
				want := append(load, make([]byte, frame.Room(size)-n)...)
				m, l, e := frame.Read(b)
				if e != api.OK || m != mark || !bytes.Equal(l, want) {
					t.Fatalf("Read of mark %d: %d, %x, %d; want %x", mark, m, l, e, want)
				}
			}
		}
	}
}

func TestBuildByteForByte(t *testing.T) { // P2.1, the second example
	b, e := frame.Build(64, 5, []byte("hi"))
	want := []byte{5, 0, 0, 0, 0, 0, 0, 0, 250, 255, 255, 255, 255, 255, 255, 255, 'h', 'i'}
	want = append(want, make([]byte, 26)...)
	c := crc32.ChecksumIEEE(want)
	want = append(want, byte(c), byte(c>>8), byte(c>>16), byte(c>>24))
	want = append(want, 5, 0, 0, 0, 0, 0, 0, 0, 250, 255, 255, 255, 255, 255, 255, 255)
	if e != api.OK || !bytes.Equal(b, want) {
		t.Errorf("Build(64, 5, hi): %x, %d; want %x", b, e, want)
	}
}

func TestBuildTellsTheFirstError(t *testing.T) { // P2.1, R2
	for _, c := range []struct {
		size, mark, load int
		want             api.Errno
	}{
		{63, 1, 0, api.ErrSize}, {4097, 1, 0, api.ErrSize}, {0, 1, 0, api.ErrSize}, {-64, 1, 0, api.ErrSize},
		{math.MaxInt, 1, 0, api.ErrSize}, {math.MinInt, 1, 0, api.ErrSize}, {63, 0, 99, api.ErrSize},
		{64, 0, 0, api.ErrRange}, {64, -1, 0, api.ErrRange}, {64, maxMark + 1, 0, api.ErrRange},
		{64, math.MinInt, 0, api.ErrRange}, {64, math.MaxInt, 29, api.ErrRange}, {64, -5, 29, api.ErrRange},
		{64, 1, 29, api.ErrLong}, {64, maxMark, 64, api.ErrLong}, {512, 1, 477, api.ErrLong}, {4096, 1, 4061, api.ErrLong},
		{64, 1, 28, api.OK}, {64, maxMark, 28, api.OK}, {4096, 1, 4060, api.OK},
	} {
		b, e := frame.Build(c.size, c.mark, make([]byte, c.load))
		if e != c.want || e != api.OK && len(b) != 0 {
			t.Errorf("Build(%d, %d, %d bytes): %d, want %d", c.size, c.mark, c.load, e, c.want)
		}
	}
}

func TestReadOfAnotherLength(t *testing.T) { // P2.1
	for _, n := range []int{0, 1, 36, 63, 4097, 8192} {
		if mark, load, e := frame.Read(make([]byte, n)); e != api.ErrSize || mark != 0 || len(load) != 0 {
			t.Errorf("Read of %d bytes: %d, want %d", n, e, api.ErrSize)
		}
	}
	if _, _, e := frame.Read(nil); e != api.ErrSize {
		t.Errorf("Read(nil): %d", e)
	}
	wantForm(t, "64 times 0", make([]byte, 64))
	wantForm(t, "4096 times 0", make([]byte, 4096))
	b, _ := frame.Build(512, 3, []byte("load"))
	wantForm(t, "a sector less a byte", b[:511])
	wantForm(t, "a sector and a byte more", append(slices.Clone(b), 0))
}

func TestEveryBitIsChecked(t *testing.T) { // P2.1
	for _, size := range []int{64, 300} {
		b, _ := frame.Build(size, 77, []byte("something"))
		for bit := range 8 * size {
			c := slices.Clone(b)
			c[bit/8] ^= 1 << (bit % 8)
			wantForm(t, "a bit turned", c)
		}
	}
}

// TestEachMarkIsChecked gives sectors one mark that is another, and a check that is right.
func TestEachMarkIsChecked(t *testing.T) { // P2.1
	other := built(64, 1<<40+9, nil)
	for _, ends := range [][2]int{{0, 8}, {8, 16}, {0, 16}, {48, 56}, {56, 64}, {48, 64}} {
		b := built(64, 5, []byte("hi"))
		copy(b[ends[0]:ends[1]], other[ends[0]:ends[1]])
		binary.LittleEndian.PutUint32(b[44:], crc32.ChecksumIEEE(b[:44]))
		wantForm(t, "another mark", b)
	}
	for _, mark := range []uint64{0, maxMark + 1, 1 << 63, math.MaxUint64, math.MaxInt64} {
		wantForm(t, "a mark that can't be", built(64, mark, []byte("hi")))
	}
	if mark, _, e := frame.Read(built(64, maxMark, nil)); mark != maxMark || e != api.OK {
		t.Errorf("Read of the greatest mark: %d, %d", mark, e)
	}
}

func TestBytesAreNotShared(t *testing.T) { // R4
	room := []byte("load and more")
	b, _ := frame.Build(64, 5, room[:4])
	if !bytes.Equal(b, built(64, 5, []byte("load"))) {
		t.Error("spare room behind the load was taken")
	}
	_, load, _ := frame.Read(b)
	load[0] = 'x'
	_ = append(load[:28], 1, 2, 3, 4)
	if !bytes.Equal(b, built(64, 5, []byte("load"))) {
		t.Error("a load shares with its sector")
	}
	frame.Check(room[:4])
	wide := append(slices.Clone(b), 1, 2, 3)
	frame.Read(wide[:64])
	if string(room) != "load and more" || !bytes.Equal(wide[64:], []byte{1, 2, 3}) {
		t.Error("what was handed in was changed")
	}
}

// wantTornFound lays first pieces of two sectors upon a third: it is read just where it is one of them.
func wantTornFound(t *testing.T, base, one, two []byte) {
	t.Helper()
	x := make([]byte, len(base))
	for p := range len(base) + 1 {
		for q := range len(base) + 1 {
			copy(x, base)
			copy(x, one[:p])
			copy(x, two[:q])
			mark, load, e := frame.Read(x)
			whole := bytes.Equal(x, one) || bytes.Equal(x, two) || bytes.Equal(x, base) && base[0]|base[8] != 0
			if whole != (e == api.OK) || !whole && (e != api.ErrForm || mark != 0 || len(load) != 0) {
				t.Fatalf("%d bytes of %x, then %d of %x upon %x: %d", p, one, q, two, base, e)
			}
		}
	}
}

func TestTornSectorsAreFound(t *testing.T) { // P2.2
	marks := []uint64{5, 6, 5 + 1<<8, 5 + 1<<16, 5 + 1<<40, 6 + 1<<40, 5 + 1<<61, maxMark, 1}
	for i, m := range marks {
		one, two, base := marks[(i+1)%len(marks)], marks[(i+2)%len(marks)], make([]byte, 64)
		wantTornFound(t, base, built(64, m, []byte("one")), built(64, one, []byte("two")))
		wantTornFound(t, built(64, two, []byte("base")), built(64, m, []byte("one")), built(64, one, []byte("two")))
		wantTornFound(t, built(64, two, nil), built(64, m, nil), built(64, one, nil))
	}
}

// TestTornSectorsAreFoundWhateverTheirChecks lays pieces of sectors upon another whose check is right for what stands then.
func TestTornSectorsAreFoundWhateverTheirChecks(t *testing.T) { // P2.2
	r := rand.New(rand.NewSource(3))
	for p := 20; p <= 44; p++ {
		base := built(64, 5, random(r, 28))
		one := built(64, 6, forged(base, p, random(r, 28)))
		x := append(slices.Clone(one[:p]), base[p:]...)
		if crc32.ChecksumIEEE(x[:44]) != binary.LittleEndian.Uint32(x[44:]) {
			t.Fatalf("%d bytes: the check is not right", p)
		}
		wantForm(t, "a torn sector with a right check", x)
		wantTornFound(t, base, one, built(64, 7, random(r, 28)))
	}
}

// forged is a load for a sector of mark 6: its first four bytes are such that base's check is right for the first p bytes of that sector upon base. Each bit of these turns the same bits of the check, whatever else stands there: which are to be turned is told by elimination.
func forged(base []byte, p int, load []byte) []byte {
	clear(load[:4])
	check := func(bits uint32) uint32 {
		binary.LittleEndian.PutUint32(load, bits)
		return crc32.ChecksumIEEE(append(built(64, 6, load)[:p:p], base[p:44]...))
	}
	plain := check(0)
	var turns, by [32]uint32 // turns[k]: a check's bits with k the highest; by[k]: the load's that turn these
	reduce := func(c, bits uint32) (uint32, uint32) {
		for k := 31; k >= 0; k-- {
			if c>>k&1 == 1 && turns[k] != 0 {
				c, bits = c^turns[k], bits^by[k]
			}
		}
		return c, bits
	}
	for k := range 32 {
		if c, bits := reduce(check(1<<k)^plain, 1<<k); c != 0 {
			top := 31
			for c>>top&1 == 0 {
				top--
			}
			turns[top], by[top] = c, bits
		}
	}
	_, bits := reduce(plain^binary.LittleEndian.Uint32(base[44:]), 0)
	check(bits)
	return load
}
