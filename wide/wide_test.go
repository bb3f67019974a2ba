package wide_test

import (
	"math"
	"math/big"
	"math/rand"
	"strings"
	"testing"

	"waywiser/wide"
)

// power is 2^n.
func power(n uint) *big.Int { return new(big.Int).Lsh(big.NewInt(1), n) }

// value is what a wide number stands for.
func value(a wide.Wide) *big.Int {
	v := new(big.Int).Mul(big.NewInt(a.Hi), power(64))
	return v.Add(v, new(big.Int).SetUint64(a.Lo))
}

// round is a number as it is when it has gone round modulo 2^128.
func round(v *big.Int) *big.Int {
	v = new(big.Int).Add(v, power(127))
	v.Mod(v, power(128))
	return v.Sub(v, power(127))
}

// wantValue fails, if a wide number is not that which v is, gone round.
func wantValue(t *testing.T, got wide.Wide, v *big.Int, what string, args ...any) {
	t.Helper()
	if want := round(v); value(got).Cmp(want) != 0 {
		t.Errorf("%s of %v: %v, want %v", what, args, got, want)
	}
}

// ints are numbers of 64 bits: those at ends, and others by chance.
func ints() []int64 {
	l := []int64{0, 1, -1, 2, -2, 9, -10, 3_600_000_000, -3_600_000_000, 1e18, -1e18, math.MaxInt64, math.MinInt64, math.MaxInt64 - 1, math.MinInt64 + 1}
	for _, n := range []uint{31, 32, 33, 62} {
		l = append(l, 1<<n, -1<<n, 1<<n-1, 1-1<<n)
	}
	r := rand.New(rand.NewSource(1))
	for range 20 {
		l = append(l, int64(r.Uint64())>>r.Intn(64))
	}
	return l
}

// wides are wide numbers: those at ends, and others by chance.
func wides() []wide.Wide {
	var l []wide.Wide
	for _, hi := range []int64{0, 1, -1, 2, -2, math.MaxInt64, math.MinInt64, math.MaxInt64 - 1, math.MinInt64 + 1} {
		for _, lo := range []uint64{0, 1, 2, math.MaxInt64, 1 << 63, 1<<63 + 1, math.MaxUint64 - 1, math.MaxUint64} {
			l = append(l, wide.Wide{Hi: hi, Lo: lo})
		}
	}
	r := rand.New(rand.NewSource(2))
	for range 60 {
		l = append(l, wide.Wide{Hi: int64(r.Uint64()) >> r.Intn(64), Lo: r.Uint64()})
	}
	return l
}

func TestOfAndMul(t *testing.T) { // P7.1
	for _, a := range ints() {
		wantValue(t, wide.Of(a), big.NewInt(a), "Of", a)
		for _, b := range ints() {
			wantValue(t, wide.Mul(a, b), new(big.Int).Mul(big.NewInt(a), big.NewInt(b)), "Mul", a, b)
		}
	}
	for n, want := range map[int64]wide.Wide{0: {}, 7: {Lo: 7}, -1: {Hi: -1, Lo: math.MaxUint64}, math.MinInt64: {Hi: -1, Lo: 1 << 63}} {
		if got := wide.Of(n); got != want {
			t.Errorf("Of(%d): %v, want %v", n, got, want)
		}
	}
	if got, want := wide.Mul(math.MinInt64, math.MinInt64), (wide.Wide{Hi: 1 << 62}); got != want {
		t.Errorf("the least one times itself: %v, want %v", got, want)
	}
}

func TestSumsAndDifferences(t *testing.T) { // P7.1: also those that go round
	for _, a := range wides() {
		wantValue(t, a.Turned(), new(big.Int).Neg(value(a)), "Turned", a)
		for _, b := range wides() {
			wantValue(t, a.Plus(b), new(big.Int).Add(value(a), value(b)), "Plus", a, b)
			wantValue(t, a.Less(b), new(big.Int).Sub(value(a), value(b)), "Less", a, b)
		}
	}
	least, most, one := wide.Wide{Hi: math.MinInt64}, wide.Wide{Hi: math.MaxInt64, Lo: math.MaxUint64}, wide.Of(1)
	if most.Plus(one) != least || least.Less(one) != most || least.Turned() != least || most.Turned() != least.Plus(one) {
		t.Error("the ends don't go round")
	}
}

func TestSignAndCompare(t *testing.T) { // P7.1
	for _, a := range wides() {
		if got, want := a.Sign(), value(a).Sign(); got != want {
			t.Errorf("Sign of %v: %d, want %d", a, got, want)
		}
		for _, b := range wides() {
			if got, want := a.Compare(b), value(a).Cmp(value(b)); got != want {
				t.Errorf("Compare of %v and %v: %d, want %d", a, b, got, want)
			}
		}
	}
}

func TestInt(t *testing.T) { // P7.1
	for _, n := range ints() {
		if got, is := wide.Of(n).Int(); got != n || !is {
			t.Errorf("Int of %d: %d, %t", n, got, is)
		}
	}
	for _, a := range append(wides(), wide.Wide{Lo: 1 << 63}, wide.Wide{Hi: -1, Lo: 1<<63 - 1}) {
		want := int64(0)
		if value(a).IsInt64() {
			want = value(a).Int64()
		}
		if got, is := a.Int(); got != want || is != value(a).IsInt64() {
			t.Errorf("Int of %v: %d, %t", a, got, is)
		}
	}
}

// near are the numbers from just below v to just above it that are wide, with either sign.
func near(v *big.Int) []wide.Wide {
	var l []wide.Wide
	for d := int64(-2); d <= 2; d++ {
		n := new(big.Int).Add(v, big.NewInt(d))
		for range 2 {
			if n.Cmp(round(n)) == 0 {
				hi := new(big.Int).Rsh(n, 64) // rounded down
				lo := new(big.Int).Sub(n, new(big.Int).Lsh(hi, 64))
				l = append(l, wide.Wide{Hi: hi.Int64(), Lo: lo.Uint64()})
			}
			n = new(big.Int).Neg(n)
		}
	}
	return l
}

func TestText(t *testing.T) { // P7.2
	l := wides()
	for n := range int64(39) {
		ten := new(big.Int).Exp(big.NewInt(10), big.NewInt(n), nil)
		l = append(l, near(ten)...)
		l = append(l, near(ten.Mul(ten, power(64)))...) // the lower half is 0 before the upper one is
	}
	for n := range uint(128) {
		l = append(l, near(power(n))...)
	}
	for _, a := range l {
		if got, want := a.Text(), value(a).String(); got != want {
			t.Errorf("Text of %v: %q, want %q", a, got, want)
		}
	}
	for a, want := range map[wide.Wide]string{
		{}:                                      "0",
		{Lo: 10}:                                "10",
		wide.Of(-1):                             "-1",
		{Hi: 1}:                                 "18446744073709551616",
		{Hi: -1}:                                "-18446744073709551616",
		{Hi: math.MinInt64}:                     "-170141183460469231731687303715884105728",
		wide.Mul(1e18, 1e18):                    "1" + strings.Repeat("0", 36),
		wide.Mul(1e18, -1e18):                   "-1" + strings.Repeat("0", 36),
		{Hi: math.MaxInt64, Lo: math.MaxUint64}: "170141183460469231731687303715884105727",
	} {
		if got := a.Text(); got != want {
			t.Errorf("Text of %v: %q, want %q", a, got, want)
		}
	}
}

func TestProductsOfSums(t *testing.T) { // P7.3
	asked := 0
	for _, a := range ints() {
		for _, b := range ints() {
			sum, is := wide.Of(a).Plus(wide.Of(b)).Int()
			if !is {
				continue
			}
			for _, c := range ints() {
				asked++
				if whole, parts := wide.Mul(sum, c), wide.Mul(a, c).Plus(wide.Mul(b, c)); whole != parts || whole.Compare(parts) != 0 || whole.Less(parts).Sign() != 0 {
					t.Errorf("(%d + %d) %d: %v, by parts %v", a, b, c, whole, parts)
				}
			}
		}
	}
	if asked < 1000 {
		t.Errorf("only %d were asked", asked)
	}
}
