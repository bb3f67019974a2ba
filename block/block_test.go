package block_test

import (
	"math"
	"math/rand"
	"slices"
	"testing"

	"waywiser/api"
	"waywiser/block"
)

// The greatest row, and the greatest length, that may be.
const (
	maxRow    = 1 << 53
	maxLength = 1 << 20
)

type posting = block.Posting

func at(row, length int, places ...int) posting {
	return posting{Row: row, Length: length, At: places}
}

// upTo are the numbers from 0 on, so many of them.
func upTo(n int) []int {
	l := make([]int, n)
	for i := range l {
		l[i] = i
	}
	return l
}

// many is a list of so many postings, one row behind the other.
func many(n int) []posting {
	var l []posting
	for i := range n {
		l = append(l, at(i, 1, 0))
	}
	return l
}

// chance is a list, of few or many postings, with small or great numbers.
func chance(r *rand.Rand, most, places int) []posting {
	small := func(most int) int { return r.Intn(1 + r.Intn(most)>>r.Intn(20)) }
	row := -1
	var l []posting
	for range r.Intn(most + 1) {
		row += 1 + small(maxRow/(most+1)) // so that the last one may be
		there := map[int]bool{}
		p := at(row, 1+small(maxLength))
		for range 1 + r.Intn(places) {
			there[small(p.Length)] = true
			there[r.Intn(p.Length)] = true
		}
		for place := range there {
			p.At = append(p.At, place)
		}
		slices.Sort(p.At)
		l = append(l, p)
	}
	return l
}

// copied is a list that shares nothing with another one.
func copied(l []posting) []posting {
	var out []posting
	for _, p := range l {
		out = append(out, at(p.Row, p.Length, slices.Clone(p.At)...))
	}
	return out
}

func same(a, b []posting) bool {
	return slices.EqualFunc(a, b, func(p, q posting) bool {
		return p.Row == q.Row && p.Length == q.Length && slices.Equal(p.At, q.At)
	})
}

// pieces are a number's bytes, by the chapter's words.
func pieces(n uint64) []byte {
	b := []byte{byte(n % 128)}
	for n /= 128; n > 0; n /= 128 {
		b = append([]byte{128 + byte(n%128)}, b...)
	}
	return b
}

// written is a list as bytes, by the chapter's words.
func written(l []posting) []byte {
	b := pieces(uint64(len(l)))
	for i, p := range l {
		row := p.Row
		if i > 0 {
			row -= l[i-1].Row + 1
		}
		b = append(b, pieces(uint64(row))...)
		b = append(b, pieces(uint64(p.Length-1))...)
		b = append(b, pieces(uint64(len(p.At)-1))...)
		for j, place := range p.At {
			if j > 0 {
				place -= p.At[j-1] + 1
			}
			b = append(b, pieces(uint64(place))...)
		}
	}
	return b
}

// numbersOf are those that bytes are; false, if there are others, or one of them is above 2^56.
func numbersOf(b []byte) ([]int, bool) {
	var l []int
	for len(b) > 0 {
		end := slices.IndexFunc(b, func(c byte) bool { return c < 128 })
		if end < 0 || end > 7 || end > 0 && b[0] == 128 {
			return nil, false
		}
		n := 0
		for _, c := range b[:end+1] {
			n = n*128 + int(c%128)
		}
		l, b = append(l, n), b[end+1:]
	}
	return l, true
}

// readOf is the list whose bytes are b, by the chapter's words; false, if there is none.
func readOf(b []byte) ([]posting, bool) {
	n, are := numbersOf(b)
	if !are || len(n) == 0 || n[0] > 64 {
		return nil, false
	}
	count, row := n[0], -1
	n = n[1:]
	var l []posting
	for range count {
		if len(n) < 3 || n[2] >= len(n)-3 {
			return nil, false
		}
		p := at(row+1+n[0], n[1]+1)
		places := n[2] + 1
		for i, m := range n[3 : 3+places] {
			if i > 0 {
				m += p.At[i-1] + 1
			}
			p.At = append(p.At, m)
		}
		row, n = p.Row, n[3+places:]
		if p.Row > maxRow || p.Length > maxLength || p.At[places-1] >= p.Length {
			return nil, false
		}
		l = append(l, p)
	}
	return l, len(n) == 0
}

// lists are such as are some, with the edges.
func lists() [][]posting {
	return [][]posting{
		nil, {}, {at(0, 1, 0)}, {at(300, 5, 0, 4)}, {at(0, 1, 0), at(1, 1, 0)}, {at(0, 2, 1), at(2, 2, 0, 1)},
		{at(maxRow, 1, 0)}, {at(maxRow-1, 1, 0), at(maxRow, 1, 0)}, {at(0, 1, 0), at(maxRow, maxLength, maxLength-1)}, {at(0, maxLength, 0, maxLength-1)},
		{at(126, 127, 126)}, {at(127, 128, 127)}, {at(128, 129, 128)}, {at(1<<14-1, 1<<14, 1<<14-1)}, {at(1<<14, 1<<14+1, 1<<14)}, {at(1<<49-1, 1, 0)}, {at(1<<49, 1, 0)},
		{at(5, 200, upTo(127)...)}, {at(5, 200, upTo(128)...)}, {at(5, 200, upTo(129)...)}, {at(5, 200, upTo(200)...)},
		many(63), many(64),
	}
}

// others are such as are none.
func others() map[string][]posting {
	return map[string][]posting{
		"65 postings":                  many(65),
		"many postings":                many(5000),
		"a row below 0":                {at(-1, 1, 0)},
		"the least row":                {at(math.MinInt, 1, 0)},
		"a row too great":              {at(maxRow+1, 1, 0)},
		"the greatest row":             {at(math.MaxInt, 1, 0)},
		"a row too great behind one":   {at(0, 1, 0), at(maxRow+1, 1, 0)},
		"a row twice":                  {at(3, 1, 0), at(3, 1, 0)},
		"rows out of order":            {at(3, 1, 0), at(2, 1, 0)},
		"a row twice at the end":       {at(1, 1, 0), at(3, 1, 0), at(3, 1, 0)},
		"no length":                    {at(0, 0, 0)},
		"a length below 0":             {at(0, -1, 0)},
		"the least length":             {at(0, math.MinInt, 0)},
		"a length too great":           {at(0, maxLength+1, 0)},
		"the greatest length":          {at(0, math.MaxInt, 0)},
		"no place":                     {at(0, 1)},
		"no place of an empty list":    {{Row: 0, Length: 1, At: []int{}}},
		"a place below 0":              {at(0, 1, -1)},
		"the least place":              {at(0, 1, math.MinInt)},
		"a place below 0 ahead":        {at(0, 5, -1, 2)},
		"a place at the length":        {at(0, 1, 1)},
		"a last place at the length":   {at(0, 5, 0, 5)},
		"the greatest place":           {at(0, 5, 0, math.MaxInt)},
		"a place twice":                {at(0, 5, 2, 2)},
		"places out of order":          {at(0, 5, 3, 2)},
		"more places than words":       {at(0, 2, 0, 1, 2)},
		"a second one without a place": {at(0, 1, 0), at(1, 1)},
		"a first one without a place":  {at(0, 1), at(1, 1, 0)},
		"all zero":                     {{}},
	}
}

// wantBytes holds a list and its bytes against one another.
func wantBytes(t *testing.T, l []posting, want []byte) {
	t.Helper()
	b, e := block.Pack(l)
	if e != api.OK || !slices.Equal(b, want) {
		t.Fatalf("Pack(%v): %v, %d, want %v", l, b, e, want)
	}
	if back, e := block.Unpack(b); e != api.OK || !same(back, l) {
		t.Fatalf("Unpack(%v): %v, %d, want %v", b, back, e, l)
	}
}

// wantRead holds what Unpack tells of bytes against the chapter's words.
func wantRead(t *testing.T, b []byte) {
	t.Helper()
	want, is := readOf(b)
	l, e := block.Unpack(b)
	switch {
	case !is && (e != api.ErrForm || l != nil):
		t.Fatalf("Unpack(%v): %v, %d", b, l, e)
	case is && (e != api.OK || !same(l, want)):
		t.Fatalf("Unpack(%v): %v, %d, want %v", b, l, e, want)
	case is:
		if back, e := block.Pack(l); e != api.OK || !slices.Equal(back, b) { // P18.3
			t.Fatalf("Pack of Unpack of %v: %v, %d", b, back, e)
		}
	}
}

func TestBytes(t *testing.T) { // P18.1
	for _, c := range []struct {
		l []posting
		b []byte
	}{
		{nil, []byte{0}},
		{[]posting{at(300, 5, 0, 4)}, []byte{1, 130, 44, 4, 1, 0, 3}},
		{[]posting{at(0, 1, 0)}, []byte{1, 0, 0, 0, 0}},
		{[]posting{at(0, 1, 0), at(1, 2, 1)}, []byte{2, 0, 0, 0, 0, 0, 1, 0, 1}},
		{[]posting{at(127, 128, 127)}, []byte{1, 127, 127, 0, 127}},
		{[]posting{at(128, 129, 128)}, []byte{1, 129, 0, 129, 0, 0, 129, 0}},
		{[]posting{at(7, 9, 1, 2, 5), at(136, 3, 2)}, []byte{2, 7, 8, 2, 1, 0, 2, 129, 0, 2, 0, 2}},
		{[]posting{at(maxRow, maxLength, maxLength-1)}, []byte{1, 144, 128, 128, 128, 128, 128, 128, 0, 191, 255, 127, 0, 191, 255, 127}},
	} {
		wantBytes(t, c.l, c.b)
	}
}

func TestList(t *testing.T) { // P18.1
	for _, l := range lists() {
		if !block.Right(l) {
			t.Errorf("Right(%v): false", l)
		}
		wantBytes(t, l, written(l))
	}
	for name, l := range others() {
		if block.Right(l) {
			t.Errorf("%s: right", name)
		}
		if b, e := block.Pack(l); e != api.ErrForm || b != nil {
			t.Errorf("%s: Pack: %v, %d", name, b, e)
		}
		if tf, length := block.Top(l); tf != 0 || length != 0 {
			t.Errorf("%s: Top: %d, %d", name, tf, length)
		}
	}
}

func TestGreatList(t *testing.T) { // P18.1
	var l []posting
	for i := range 8 {
		l = append(l, at(i*i, maxLength, upTo(maxLength)...))
	}
	b, e := block.Pack(l)
	if e != api.OK || !slices.Equal(b, written(l)) {
		t.Fatalf("Pack: %d bytes, %d", len(b), e)
	}
	if back, e := block.Unpack(b); e != api.OK || !same(back, l) {
		t.Errorf("Unpack: %d postings, %d", len(back), e)
	}
	if tf, length := block.Top(l); tf != maxLength || length != maxLength {
		t.Errorf("Top: %d, %d", tf, length)
	}
	l[7].At[maxLength-1]++
	if _, e := block.Pack(l); e != api.ErrForm || block.Right(l) {
		t.Errorf("Pack with a last place too great: %d", e)
	}
}

func TestNoBytesOfAList(t *testing.T) { // P18.1
	long := func(n int, c byte) []byte { return slices.Repeat([]byte{c}, n) }
	for name, b := range map[string][]byte{
		"nothing":                       nil,
		"a byte too many":               {0, 0},
		"a byte too many behind one":    {1, 0, 0, 0, 0, 0},
		"a number that does not end":    {128},
		"a number that does not end, 2": {1, 129},
		"a piece too many":              {128, 0},
		"a row with a piece too many":   {1, 128, 0, 0, 0, 0},
		"a row with a great piece more": {1, 128, 130, 44, 4, 1, 0, 3},
		"a place with a piece too many": {1, 0, 0, 0, 128, 0},
		"65 postings":                   append([]byte{65}, long(4*65, 0)...),
		"128 postings":                  append([]byte{129, 0}, long(4*128, 0)...),
		"one posting too few":           {2, 0, 0, 0, 0},
		"no row":                        {1},
		"no length":                     {1, 0},
		"no number of places":           {1, 0, 0},
		"no place":                      {1, 0, 0, 0},
		"a place too few":               {1, 0, 5, 1, 0},
		"a place at the length":         {1, 0, 0, 0, 1},
		"a last place at the length":    {1, 0, 4, 1, 0, 4},
		"more places than words":        {1, 0, 0, 1, 0, 0},
		"a row too great":               {1, 144, 128, 128, 128, 128, 128, 128, 1, 0, 0, 0},
		"a row too great behind one":    {2, 144, 128, 128, 128, 128, 128, 128, 0, 0, 0, 0, 0, 0, 0, 0},
		"a length too great":            {1, 0, 192, 128, 0, 0, 0},
		"few bytes of many places":      {1, 0, 191, 255, 127, 191, 255, 127},
		"a row of 2^63":                 {1, 129, 128, 128, 128, 128, 128, 128, 128, 128, 0, 0, 0, 0},
		"a row of 2^64":                 {1, 130, 128, 128, 128, 128, 128, 128, 128, 128, 0, 0, 0, 0},
		"a row of 2^64 and 5":           {1, 130, 128, 128, 128, 128, 128, 128, 128, 128, 5, 0, 0, 0},
		"a row of 2^70 and 5":           {1, 129, 128, 128, 128, 128, 128, 128, 128, 128, 128, 5, 0, 0, 0},
		"a count of 2^64 and 1":         {130, 128, 128, 128, 128, 128, 128, 128, 128, 1, 0, 0, 0, 0},
		"a length of 2^64 and 1":        {1, 0, 130, 128, 128, 128, 128, 128, 128, 128, 128, 0, 0, 0},
		"a place of 2^64":               {1, 0, 4, 0, 130, 128, 128, 128, 128, 128, 128, 128, 128, 0},
		"a place of 2^64 behind one":    {1, 0, 4, 1, 0, 130, 128, 128, 128, 128, 128, 128, 128, 128, 0},
		"many great bytes":              long(1<<20, 255),
		"many first pieces":             long(1<<20, 128),
		"a row of many pieces":          append([]byte{1}, long(1<<20, 255)...),
		"many zeros":                    long(1<<20, 0),
		"many ones":                     long(1<<20, 1),
	} {
		if l, e := block.Unpack(b); e != api.ErrForm || l != nil {
			t.Errorf("%s: %v, %d", name, l, e)
		}
		wantRead(t, b)
	}
}

func TestShortBytes(t *testing.T) { // P18.1, P18.3
	alphabet := []byte{0, 1, 2, 3, 127, 128, 129, 255}
	for length := range 8 {
		b := make([]byte, length)
		for n := range 1 << (3 * length) {
			for i := range b {
				b[i] = alphabet[n>>(3*i)&7]
			}
			wantRead(t, b)
		}
	}
}

func TestThereAndBack(t *testing.T) { // P18.3
	r := rand.New(rand.NewSource(1))
	for range 3000 {
		l := chance(r, 64, 1+r.Intn(40))
		if !block.Right(l) {
			t.Fatalf("Right(%v): false", l)
		}
		b := written(l)
		wantBytes(t, l, b)
		wantRead(t, b)
		for range 10 { // a byte of another kind, a byte more, a byte less
			other := slices.Clone(b)
			i := r.Intn(len(b))
			switch r.Intn(4) {
			case 0:
				other[i] = byte(r.Intn(256))
			case 1:
				other[i] ^= 1 << r.Intn(8)
			case 2:
				other = slices.Insert(other, i, []byte{0, 1, 127, 128, 129, 255}[r.Intn(6)])
			case 3:
				other = slices.Delete(other, i, i+1)
			}
			wantRead(t, other)
		}
		wantRead(t, b[:r.Intn(len(b))])
	}
}

func TestTop(t *testing.T) { // P18.1
	for _, c := range []struct {
		l          []posting
		tf, length int
	}{
		{nil, 0, 0}, {[]posting{}, 0, 0}, {[]posting{at(0, 1, 0)}, 1, 1}, {[]posting{at(300, 5, 0, 4)}, 2, 5},
		{[]posting{at(1, 9, 3), at(2, 7, 0, 1, 6), at(5, 8, 1, 2)}, 3, 7},
		{[]posting{at(1, 9, 0, 1, 2, 3), at(2, 5, 4), at(5, 8, 1, 2)}, 4, 5},
		{[]posting{at(1, 20, 1), at(2, 30, 1), at(5, 25, 1, 2)}, 2, 20},
		{[]posting{at(0, maxLength, 0)}, 1, maxLength}, {many(64), 1, 1},
	} {
		if tf, length := block.Top(c.l); tf != c.tf || length != c.length {
			t.Errorf("Top(%v): %d, %d, want %d, %d", c.l, tf, length, c.tf, c.length)
		}
	}
}

func TestFollow(t *testing.T) { // P18.2
	for _, c := range []struct {
		first, second posting
		by            int
		want          []int
	}{
		{at(1, 10, 1, 5), at(1, 10, 2, 9), 1, []int{1}},
		{at(1, 10, 1, 5), at(1, 10, 2, 9), 4, []int{5}},
		{at(1, 10, 1, 5), at(1, 10, 2, 9), 8, []int{1}},
		{at(1, 10, 1, 5), at(1, 10, 2, 9), 2, nil},
		{at(1, 10, 1, 5, 8), at(1, 10, 2, 9), 1, []int{1, 8}},
		{at(1, 10, 2, 9), at(1, 10, 1, 5), 1, nil}, // ahead is not behind
		{at(1, 10, 1, 2, 3, 4), at(1, 10, 1, 2, 3, 4), 1, []int{1, 2, 3}},
		{at(1, 10, 1, 2, 3, 4), at(1, 10, 1, 2, 3, 4), 3, []int{1}},
		{at(0, 10, 0), at(0, 10, 9), 9, []int{0}},
		{at(maxRow, 10, 0), at(maxRow, 10, 9), 9, []int{0}},
		{at(1, 2, 1), at(1, 10, 2), 1, []int{1}}, // of other lengths
		{at(1, maxLength, 0), at(1, maxLength, maxLength-1), maxLength - 1, []int{0}},
		{at(1, maxLength, 0), at(1, maxLength, maxLength-1), maxLength, nil},
		{at(1, 10, 3), at(1, 10, 3), 0, nil},
		{at(1, 10, 3), at(1, 10, 2), -1, nil},
		{at(1, 10, 3), at(1, 10, 2), math.MinInt, nil},
		{at(1, 10, 3), at(1, 10, 2), math.MaxInt, nil},
		{at(1, 10, 3), at(1, 10, 2), maxLength + 1, nil},
		{at(1, 10, 3), at(2, 10, 4), 1, nil},
		{at(2, 10, 3), at(1, 10, 4), 1, nil},
		{at(maxRow+1, 10, 3), at(maxRow+1, 10, 4), 1, nil},
		{at(-1, 10, 3), at(-1, 10, 4), 1, nil},
		{at(1, 10), at(1, 10, 4), 1, nil},
		{at(1, 10, 3), at(1, 10), 1, nil},
		{at(1, 3, 3), at(1, 10, 4), 1, nil},
		{at(1, 10, 3), at(1, 4, 4), 1, nil},
		{at(1, maxLength+1, 3), at(1, 10, 4), 1, nil},
		{at(1, 10, 3), at(1, maxLength+1, 4), 1, nil},
		{at(1, 10, 3, 3), at(1, 10, 4), 1, nil},
		{at(1, 10, 3), at(1, 10, 4, 4), 1, nil},
		{at(1, 10, 3, 2), at(1, 10, 4), 1, nil},
		{at(1, 10, 3), at(1, 10, 4, 1), 1, nil},
		{at(1, 10, -1, 3), at(1, 10, 0, 4), 1, nil},
		{at(1, 10, 3, math.MaxInt), at(1, 10, 4), 1, nil},
		{posting{}, posting{}, 1, nil},
	} {
		if l := block.Follow(c.first, c.second, c.by); !slices.Equal(l, c.want) {
			t.Errorf("Follow(%v, %v, %d): %v, want %v", c.first, c.second, c.by, l, c.want)
		}
	}
}

func TestFollowOfMany(t *testing.T) { // P18.2
	all := at(9, maxLength, upTo(maxLength)...)
	for _, by := range []int{1, 2, 1000, maxLength - 1} {
		if l := block.Follow(all, all, by); !slices.Equal(l, upTo(maxLength-by)) {
			t.Errorf("by %d: %d places", by, len(l))
		}
	}
	r := rand.New(rand.NewSource(2))
	pick := func() posting {
		p := at(4, 60)
		for i := range p.Length {
			if r.Intn(3) == 0 {
				p.At = append(p.At, i)
			}
		}
		return p
	}
	for range 5000 {
		first, second, by := pick(), pick(), 1+r.Intn(70)
		if len(first.At) == 0 || len(second.At) == 0 {
			continue
		}
		var want []int
		for _, a := range first.At {
			for _, b := range second.At {
				if b-a == by {
					want = append(want, a)
				}
			}
		}
		if l := block.Follow(first, second, by); !slices.Equal(l, want) {
			t.Fatalf("Follow(%v, %v, %d): %v, want %v", first, second, by, l, want)
		}
	}
}

func TestMemory(t *testing.T) { // R4
	room := func(places ...int) []int { // with room behind its end, which is not to be changed
		l := append(make([]int, 0, len(places)+4), places...)
		copy(l[len(l):cap(l)], []int{-7, -7, -7, -7})
		return l
	}
	l := []posting{{1, 10, room(1, 5)}, {4, 12, room(0, 2, 11)}, {5, 12, room(3)}}
	before := copied(l)
	b, _ := block.Pack(l)
	block.Right(l)
	block.Top(l)
	followed := block.Follow(l[0], posting{1, 10, l[1].At[1:2:2]}, 1)
	if !same(l, before) || slices.ContainsFunc(l, func(p posting) bool { return !slices.Equal(p.At[len(p.At):cap(p.At)], []int{-7, -7, -7, -7}) }) {
		t.Errorf("%v was %v", l, before)
	}
	for _, p := range l {
		p.At[0] = 9
	}
	if !slices.Equal(followed, []int{1}) {
		t.Errorf("Follow: %v", followed)
	}
	b = append(make([]byte, 0, len(b)+4), b...)
	copy(b[len(b):cap(b)], "room")
	bytes := slices.Clone(b)
	back, _ := block.Unpack(b)
	again, _ := block.Unpack(b)
	if !slices.Equal(b, bytes) || string(b[len(b):cap(b)]) != "room" {
		t.Errorf("%v were %v", b, bytes)
	}
	clear(b)
	if !same(back, before) {
		t.Errorf("%v, want %v", back, before)
	}
	for i := range back {
		_ = append(back[i].At, -1, -2)
	}
	if !same(back, before) {
		t.Errorf("behind an append: %v, want %v", back, before)
	}
	for _, p := range back {
		clear(p.At)
	}
	if !same(again, before) {
		t.Errorf("%v, want %v", again, before)
	}
}
