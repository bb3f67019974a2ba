package score_test

import (
	"math"
	"math/big"
	"math/rand"
	"testing"

	"waywiser/score"
)

// The greatest numbers that may be.
const (
	maxTexts  = 1 << 32
	maxTotal  = 1 << 52
	maxLength = 1 << 20
)

func great(n int) *big.Int { return new(big.Int).SetInt64(int64(n)) }

// logOf is the logarithm by the chapter's words, in fractions.
func logOf(n uint64) int {
	if n == 0 {
		return 0
	}
	e, power := 0, big.NewInt(1)
	for next := big.NewInt(2); next.Cmp(new(big.Int).SetUint64(n)) <= 0; next = new(big.Int).Lsh(power, 1) {
		e, power = e+1, next
	}
	x := cut(new(big.Rat).SetFrac(new(big.Int).SetUint64(n), power))
	eight := 0
	for range 8 {
		eight *= 2
		x = cut(x.Mul(x, x))
		if x.Cmp(big.NewRat(2, 1)) >= 0 {
			x = cut(x.Mul(x, big.NewRat(1, 2)))
			eight++
		}
	}
	return 256*e + eight
}

// cut is a number rounded down to 30 places behind the point of base 2.
func cut(x *big.Rat) *big.Rat {
	all := big.NewInt(1 << 30)
	up := new(big.Int).Mul(x.Num(), all)
	return new(big.Rat).SetFrac(up.Div(up, x.Denom()), all)
}

// over is one number divided by another one, rounded down, once and for all within 63 bits.
func over(t *testing.T, a, b *big.Int) *big.Int {
	t.Helper()
	for _, n := range []*big.Int{a, b} {
		if !n.IsInt64() {
			t.Fatalf("%s is above 2^63 - 1", n) // P17.3
		}
	}
	return new(big.Int).Div(a, b)
}

// weightOf is a weight by the chapter's words.
func weightOf(t *testing.T, texts, df int) int {
	t.Helper()
	n := over(t, new(big.Int).Add(great(texts), great(df)), great(df))
	return 1 + logOf(n.Uint64())
}

// shareOf is a share by the chapter's words.
func shareOf(t *testing.T, s score.Stats, tf, length int) int {
	t.Helper()
	long := new(big.Int).Mul(new(big.Int).Mul(great(900), great(length)), great(s.Texts))
	total := s.Total
	if total < 1 {
		total = 1
	}
	below := new(big.Int).Mul(great(1000), great(tf))
	below.Add(below, great(300)).Add(below, over(t, long, great(total)))
	return 1 + int(over(t, new(big.Int).Mul(great(2200000), great(tf)), below).Int64())
}

// root is the least number whose 256th power is at least 2^k.
func root(k int) uint64 {
	n := new(big.Int).Lsh(big.NewInt(1), uint(k))
	for range 8 {
		floor := new(big.Int).Sqrt(n)
		if new(big.Int).Mul(floor, floor).Cmp(n) < 0 {
			floor.Add(floor, big.NewInt(1))
		}
		n = floor
	}
	return n.Uint64()
}

func wantLog(t *testing.T, n uint64) {
	t.Helper()
	if got, want := score.Log(n), logOf(n); got != want {
		t.Fatalf("Log(%d): %d, want %d", n, got, want)
	}
}

func TestLog(t *testing.T) { // P17.1
	for n, want := range map[uint64]int{
		0: 0, 1: 0, 2: 256, 3: 405, 4: 512, 5: 594, 7: 718, 10: 850, 100: 1700, 1000: 2551, 1023: 2559, 1024: 2560, 1025: 2560,
		1e6: 5102, 1e9: 7653, 1e18: 15307, 1<<30 - 1: 7679, 1 << 30: 7680, 1<<31 - 1: 7935, 1 << 31: 7936, 1<<31 + 1: 7936, 1<<32 - 1: 8191, 1 << 32: 8192, 1<<32 + 1: 8192,
		1<<63 - 1: 16127, 1 << 63: 16128, math.MaxUint64: 16383,
		// numbers whose exact logarithm is 1 more: what is rounded down on the way counts
		17806955: 6165, 26728490: 6315, 29625014: 6353, 269893034: 7169, 388989575: 7304, 461338355: 7367,
	} {
		if got := score.Log(n); got != want {
			t.Errorf("Log(%d): %d, want %d", n, got, want)
		}
	}
}

func TestLogByItsWords(t *testing.T) { // P17.1
	for n := range uint64(5000) {
		wantLog(t, n)
	}
	for e := range 64 {
		for d := range uint64(5) {
			wantLog(t, 1<<e-2+d) // goes round about 1 and 2^64: then these are others
		}
	}
	for k := 1; k < 64*256; k += 7 { // where the logarithm becomes one more
		n := root(k)
		for d := range uint64(3) {
			wantLog(t, n-1+d)
		}
		wantLog(t, n+n>>30) // as far above as is rounded down at first
	}
	r := rand.New(rand.NewSource(1))
	for range 5000 {
		wantLog(t, r.Uint64()>>r.Intn(64))
	}
}

func TestLogGrows(t *testing.T) { // P17.3
	for n := uint64(1); n < 100000; n++ {
		if a, b := score.Log(n), score.Log(n+1); a > b {
			t.Fatalf("Log(%d): %d, Log(%d): %d", n, a, n+1, b)
		}
	}
	r := rand.New(rand.NewSource(2))
	for range 200000 {
		n := r.Uint64()>>r.Intn(64) | 1
		m := n + r.Uint64()>>r.Intn(64)
		if m < n {
			m = math.MaxUint64
		}
		if a, b := score.Log(n), score.Log(m); a > b {
			t.Fatalf("Log(%d): %d, Log(%d): %d", n, a, m, b)
		}
		if n >>= 1; n > 0 && score.Log(2*n) != score.Log(n)+256 {
			t.Fatalf("Log(%d): %d, Log(%d): %d", n, score.Log(n), 2*n, score.Log(2*n))
		}
	}
}

// numbers are what Right is asked of.
type numbers struct {
	texts, total, df, tf, length int
}

func (n numbers) stats() score.Stats { return score.Stats{Texts: n.texts, Total: n.total} }

// counted and had: are those right that Weight, and Share, ask for?
func (n numbers) counted() bool {
	return n.texts >= 1 && n.texts <= maxTexts && n.df >= 1 && n.df <= n.texts
}

func (n numbers) had() bool {
	return n.texts >= 1 && n.texts <= maxTexts && n.total >= 0 && n.total <= maxTotal && n.tf >= 1 && n.tf <= maxLength && n.length >= n.tf && n.length <= maxLength
}

// check holds all that is told of numbers against the chapter's words.
func (n numbers) check(t *testing.T) {
	t.Helper()
	right := n.counted() && n.had()
	if got := score.Right(n.stats(), n.df, n.tf, n.length); got != right {
		t.Fatalf("Right(%+v): %t", n, got)
	}
	weight, share, both := 0, 0, 0
	if n.counted() {
		weight = weightOf(t, n.texts, n.df)
	}
	if n.had() {
		share = shareOf(t, n.stats(), n.tf, n.length)
	}
	if right {
		both = weight * share
	}
	if got := score.Weight(n.stats(), n.df); got != weight {
		t.Fatalf("Weight(%+v): %d, want %d", n, got, weight)
	}
	if got := score.Share(n.stats(), n.tf, n.length); got != share {
		t.Fatalf("Share(%+v): %d, want %d", n, got, share)
	}
	if got := score.Score(n.stats(), n.df, n.tf, n.length); got != both {
		t.Fatalf("Score(%+v): %d, want %d", n, got, both)
	}
}

func TestAtTheEnds(t *testing.T) { // P17.1, P17.2, P17.3
	texts := []int{math.MinInt, -1, 0, 1, 2, 3, 1000, maxTexts - 1, maxTexts, maxTexts + 1, math.MaxInt}
	totals := []int{math.MinInt, -1, 0, 1, 2, 5000, maxTotal - 1, maxTotal, maxTotal + 1, math.MaxInt}
	dfs := []int{math.MinInt, -1, 0, 1, 2, 3, 4, 999, 1000, 1001, maxTexts - 1, maxTexts, maxTexts + 1, math.MaxInt}
	sizes := []int{math.MinInt, -1, 0, 1, 2, 3, 1000, maxLength - 1, maxLength, maxLength + 1, math.MaxInt}
	for _, n := range texts {
		for _, total := range totals {
			for _, df := range dfs {
				numbers{n, total, df, 1, 1}.check(t)
				numbers{n, total, df, maxLength, maxLength}.check(t)
				numbers{n, total, df, 2, 1}.check(t)
			}
			for _, tf := range sizes {
				for _, length := range sizes {
					numbers{n, total, 1, tf, length}.check(t)
					numbers{n, total, 0, tf, length}.check(t)
				}
			}
		}
	}
}

func TestByChance(t *testing.T) { // P17.1, P17.2, P17.3
	r := rand.New(rand.NewSource(3))
	upTo := func(most int) int { return 1 + r.Intn(1+r.Intn(most)>>r.Intn(30)) }
	for range 30000 {
		n := numbers{texts: upTo(maxTexts), total: upTo(maxTotal+1) - 1, length: upTo(maxLength)}
		n.df, n.tf = upTo(n.texts), upTo(n.length)
		if !n.counted() || !n.had() {
			t.Fatalf("%+v are not right", n)
		}
		n.check(t)
	}
}

func TestWeight(t *testing.T) { // P17.2
	for _, c := range []struct{ texts, df, want int }{
		{1, 1, 257}, {2, 1, 406}, {2, 2, 257}, {3, 1, 513}, {3, 2, 257}, // of 3 and 2 the quotient is 2 and a half, rounded down
		{4, 3, 257}, {1023, 1, 2561}, {1000, 1000, 257}, {1000, 999, 257}, {maxTexts, 1, 8193}, {maxTexts, maxTexts, 257},
		{0, 0, 0}, {0, 1, 0}, {-1, -1, 0}, {5, 6, 0}, {5, 0, 0}, {5, -1, 0}, {maxTexts + 1, 1, 0},
	} {
		for _, total := range []int{0, 7, -1, maxTotal + 1, math.MinInt, math.MaxInt} { // for which Weight does not ask
			if got := score.Weight(score.Stats{Texts: c.texts, Total: total}, c.df); got != c.want {
				t.Errorf("Weight of (%d, %d) and %d words: %d, want %d", c.texts, c.df, total, got, c.want)
			}
		}
	}
}

func TestShare(t *testing.T) { // P17.2
	for _, c := range []struct{ texts, total, tf, length, want int }{
		{1, 1, 1, 1, 1001},
		{1, 0, 1, 1, 1001},             // as of 1 word
		{2, 10, 1, 5, 1001},            // of as many words as on the average
		{2, 10, 2, 5, 1376},            // 4400000 / 3200 is 1375
		{2, 10, 1, 1, 1487},            // 2200000 / 1480 is 1486.4, and 900 / 5 is 180
		{3, 7, 1, 1, 1306},             // 2700 / 7 is 385.7
		{1, 0, 1, 2, 710},              // 2200000 / 3100 is 709.6
		{maxTexts, 0, 1, maxLength, 1}, // nothing is left of the quotient
		{1, maxTotal, maxLength, maxLength, 2200},
		{1, maxTotal, 1, 1, 1693},
		{0, 1, 1, 1, 0}, {maxTexts + 1, 1, 1, 1, 0}, {1, -1, 1, 1, 0}, {1, maxTotal + 1, 1, 1, 0}, {1, 1, 0, 1, 0}, {1, 1, 2, 1, 0}, {1, 1, 1, maxLength + 1, 0}, {1, 1, 1, 0, 0}, {1, 1, -1, -1, 0},
	} {
		if got := score.Share(score.Stats{Texts: c.texts, Total: c.total}, c.tf, c.length); got != c.want {
			t.Errorf("Share of %+v: %d", c, got)
		}
	}
}

func TestScore(t *testing.T) { // P17.2
	for _, c := range []struct{ texts, total, df, tf, length, want int }{
		{1, 1, 1, 1, 1, 257 * 1001},
		{2, 10, 1, 2, 5, 406 * 1376},
		{maxTexts, maxTotal, 1, maxLength, maxLength, 8193 * 2200},
		{1, 1, 0, 1, 1, 0}, {1, 1, 2, 1, 1, 0}, {1, -1, 1, 1, 1, 0}, {1, 1, 1, 2, 1, 0}, {0, 0, 0, 0, 0, 0},
	} {
		s := score.Stats{Texts: c.texts, Total: c.total}
		if got := score.Score(s, c.df, c.tf, c.length); got != c.want {
			t.Errorf("Score of %+v: %d", c, got)
		}
	}
}

func TestWhatFollows(t *testing.T) { // P17.3
	r := rand.New(rand.NewSource(4))
	for range 100000 {
		s := score.Stats{Texts: 2 + r.Intn(maxTexts-1)>>r.Intn(32), Total: r.Intn(maxTotal+1) >> r.Intn(53)}
		length := 2 + r.Intn(maxLength-1)>>r.Intn(20)
		tf, df := 1+r.Intn(length-1), 1+r.Intn(s.Texts-1)
		if a, b := score.Share(s, tf, length), score.Share(s, tf+1, length); a > b {
			t.Fatalf("shares of %+v, length %d: %d at %d, %d at one more", s, length, a, tf, b)
		}
		if a, b := score.Share(s, tf, length-1), score.Share(s, tf, length); a < b {
			t.Fatalf("shares of %+v, %d places: %d, %d of length %d", s, tf, a, b, length)
		}
		if a, b := score.Weight(s, df), score.Weight(s, df+1); a < b {
			t.Fatalf("weights of %+v: %d at %d, %d at one more", s, a, df, b)
		}
	}
}
