package num_test

import (
	"math"
	"math/big"
	"math/rand"
	"regexp"
	"slices"
	"strconv"
	"strings"
	"testing"

	"waywiser/api"
	"waywiser/num"
)

const most = 9_000_000_000_000_000_000

// grammar is that of a number's text; it finds the longest one.
var grammar = func() *regexp.Regexp {
	r := regexp.MustCompile(`^-?(0|[1-9][0-9]*)(\.[0-9]+)?([eE][+-]?[0-9]+)?`)
	r.Longest()
	return r
}()

// plain is the grammar of a plain text.
var plain = regexp.MustCompile(`^-?(0|[1-9][0-9]*)(\.[0-9]*[1-9])?$`)

// model reads a number's text by fractions.
func model(t *testing.T, s string) (int64, api.Errno) {
	t.Helper()
	if s == "" || len(grammar.FindString(s)) != len(s) {
		return 0, api.ErrText
	}
	value, ok := new(big.Rat).SetString(s)
	if !ok { // the exponent is so great that nothing but 0 is held
		ahead, _, _ := strings.Cut(strings.ToLower(s), "e")
		if strings.Trim(ahead, "-.0") != "" {
			return 0, api.ErrNumber
		}
		return 0, api.OK
	}
	return heldOf(value.Mul(value, big.NewRat(api.Scale, 1)))
}

// heldOf tells the number of so many parts.
func heldOf(parts *big.Rat) (int64, api.Errno) {
	if !parts.IsInt() || parts.Num().CmpAbs(big.NewInt(most)) > 0 {
		return 0, api.ErrNumber
	}
	return parts.Num().Int64(), api.OK
}

// wantParse fails, if Parse tells something else.
func wantParse(t *testing.T, s string, n int64, e api.Errno) {
	t.Helper()
	if got, ge := num.Parse(s); got != n || ge != e {
		if len(s) > 60 {
			s = s[:60] + ".. (" + strconv.Itoa(len(s)) + " bytes)"
		}
		t.Errorf("Parse(%q): %d, %d; want %d, %d", s, got, ge, n, e)
	}
}

// wantLike fails, if Parse or Scan tell something else than the models.
func wantLike(t *testing.T, s string) {
	t.Helper()
	n, e := model(t, s)
	wantParse(t, s, n, e)
	if got, want := num.Scan(s), len(grammar.FindString(s)); got != want {
		t.Errorf("Scan(%q): %d, want %d", s, got, want)
	}
}

func TestParse(t *testing.T) { // P3.1
	for s, n := range map[string]int64{
		"0": 0, "-0": 0, "0.0": 0, "-0.000e-7": 0, "0e5": 0, "0e999999999999999999999999": 0, "-0E-999999999999999999999999": 0, "0.00000000000000000000": 0,
		"1": 10000000, "-1": -10000000, "1.5e1": 150000000, "1.5E+1": 150000000, "15e-1": 15000000, "10e-8": 1, "-10e-8": -1,
		"0.0000001": 1, "-0.0000001": -1, "0.00000010000000": 1, "1e-7": 1, "0.1e-6": 1, "1000000e-13": 1, "12.3456789": 123456789,
		"1e0": 10000000, "1e-0": 10000000, "1e+00000000000000000000000000000000000001": 100000000, "100000000000000000000000000000000e-32": 10000000,
		"900000000000": most, "-900000000000": -most, "9e11": most, "-9E11": -most, "0.9e12": most, "900000000000.0000000": most,
		"899999999999.9999999": most - 1, "-899999999999.9999999": 1 - most, "8999999999999999999e-7": most - 1, "0.00000000000000000009e31": most,
	} {
		wantParse(t, s, n, api.OK)
	}
}

func TestParseTellsWhatIsNotHeld(t *testing.T) { // P3.1
	for _, s := range []string{
		"1e-8", "0.00000001", "-0.00000001", "1.00000001", "11e-8", "0.12345678", "900000000000.00000001", "1e-999999999999999999999999", "5e-8",
		"900000000000.0000001", "-900000000000.0000001", "900000000001", "1e12", "-1e12", "9.1e11", "10e11", "1000000000000", "99999999999999999999999999", "18446744073709551616e-7", "1844674407370.9551617", "1e99", "-1e99", "1e99999999999999999999999999999",
		"1e18446744073709551616", "1e9223372036854775808", "1e4294967296", "1e-18446744073709551616", "1e-4294967303", "922337203685.4775808", "-922337203685.4775808", "922337203685.4775807",
	} {
		wantParse(t, s, 0, api.ErrNumber)
	}
}

func TestParseTellsWhatIsNoText(t *testing.T) { // P3.1
	for _, s := range []string{
		"", "-", "+", "+1", "--1", "01", "00", "-01", "00.5", ".5", "-.5", "1.", "-1.", "0.", "1.e5", "1e", "1E", "1e+", "1e-", "1e+-1", "1e1.5", "1.5.5", "1e1e1", "e5", "1 ", " 1", "1\n", "\t1", "1,", "1_000", "0x1", "1f", "0b1", "1e0x1",
		"Inf", "NaN", "Infinity", "-Infinity", "inf", "1/2", "½", "١", "1١", "1.١", "1e１", "１", "1\x00", "\xff", "1\xff", "1.\xff", "-\xff", "99999999999999999999.", "1e99x", "1e99 ",
	} {
		wantParse(t, s, 0, api.ErrText)
	}
}

func TestParseOfLongTexts(t *testing.T) { // P3.1
	zeros := func(n int) string { return strings.Repeat("0", n) }
	for _, s := range []string{zeros(api.MaxText + 1), "1" + zeros(api.MaxText), "0." + zeros(api.MaxText-1), strings.Repeat("x", api.MaxText+1), strings.Repeat(" ", 3*api.MaxText)} {
		wantParse(t, s, 0, api.ErrLong)
	}
	wantParse(t, "0."+zeros(api.MaxText-2), 0, api.OK)
	wantParse(t, "-1."+zeros(api.MaxText-3), -api.Scale, api.OK)
	wantParse(t, "1"+zeros(60000)+"e-60000", api.Scale, api.OK)
	wantParse(t, "1"+zeros(60000)+"e-60007", 1, api.OK)
	wantParse(t, "1"+zeros(60000)+"e-60008", 0, api.ErrNumber)
	wantParse(t, "9"+zeros(60000)+"e-59989", most, api.OK)
	wantParse(t, "9"+zeros(60000)+"e-59988", 0, api.ErrNumber)
	wantParse(t, "0."+zeros(60000)+"25e60001", api.Scale/4*10, api.OK)
	wantParse(t, "0."+zeros(60000)+"25e60000", api.Scale/4, api.OK)
	wantParse(t, "0."+zeros(60000)+"9e60012", most, api.OK)
	wantParse(t, "0."+zeros(60000)+"9e60013", 0, api.ErrNumber)
	wantParse(t, "0."+zeros(65527)+"1e65538", 1e10*api.Scale, api.OK)
	wantParse(t, "0."+zeros(65527)+"1e70000", 0, api.ErrNumber)
	wantParse(t, "1"+zeros(65528)+"e-65535", 1, api.OK)
	wantParse(t, "1"+zeros(65528)+"e-70000", 0, api.ErrNumber)
	wantParse(t, "1e"+zeros(60000)+"3", 1000*api.Scale, api.OK)
	wantParse(t, "1e-"+zeros(60000)+"3", api.Scale/1000, api.OK)
	wantParse(t, "1e"+strings.Repeat("9", api.MaxText-2), 0, api.ErrNumber)
	wantParse(t, "0e"+strings.Repeat("9", api.MaxText-2), 0, api.OK)
	wantParse(t, strings.Repeat("9", api.MaxText), 0, api.ErrNumber)
	wantParse(t, "1"+zeros(api.MaxText-2)+"1", 0, api.ErrNumber)
	wantParse(t, "0."+zeros(api.MaxText-3)+"x", 0, api.ErrText)
}

func TestScan(t *testing.T) { // P3.1
	for s, n := range map[string]int{
		"": 0, "x": 0, "-": 0, "--1": 0, "+1": 0, ".5": 0, " 1": 0, "e1": 0, "-x": 0, "-.5": 0, "\xff": 0, "١": 0,
		"0": 1, "01": 1, "-0": 2, "-01": 2, "00": 1, "1.": 1, "1.e": 1, "1.e5": 1, "1e": 1, "1e+": 1, "1E-": 1, "1e+x": 1, "1e+-1": 1,
		"12": 2, "12,": 2, "12]": 2, "12 ": 2, "1.5": 3, "1.5.5": 3, "1.5e": 3, "1.5e-": 3, "1.5e5": 5, "1.5E+05": 7, "1.5e5e5": 5, "1.5e5.5": 5, "-1.5e-5-": 7, "0.0e0": 5, "0e0": 3,
		"1e99": 4, "1\xff": 1, "1.5é": 3, "1.é": 1, "1e１": 1, "1١": 1,
	} {
		if got := num.Scan(s); got != n {
			t.Errorf("Scan(%q): %d, want %d", s, got, n)
		}
	}
	long := strings.Repeat("7", 2*api.MaxText)
	if got := num.Scan("-" + long + "." + long + "e" + long + "x"); got != 6*api.MaxText+3 {
		t.Errorf("Scan of a long text: %d", got)
	}
}

func TestAllShortTexts(t *testing.T) { // P3.1
	const signs = "-+.eE015x"
	var all func(s string, more int)
	all = func(s string, more int) {
		wantLike(t, s)
		for i := 0; i < len(signs) && more > 0; i++ {
			all(s+signs[i:i+1], more-1)
		}
	}
	all("", 5)
}

func TestTextsByChance(t *testing.T) { // P3.1
	r := rand.New(rand.NewSource(3))
	figures := func(most int) string {
		b := make([]byte, 1+r.Intn(most))
		for i := range b {
			b[i] = "0123456789000999"[r.Intn(16)]
		}
		return string(b)
	}
	either := func(l ...string) string { return l[r.Intn(len(l))] }
	for range 100000 {
		s := either("", "-") + either("0", figures(14), either("1", "8", "9")+figures(20))
		if r.Intn(2) == 0 {
			s += "." + figures(12)
		}
		if r.Intn(2) == 0 {
			s += either("e", "E") + either("", "+", "-") + either("", "0", "00") + strconv.Itoa(r.Intn(26))
		}
		wantLike(t, s)
		i := r.Intn(len(s) + 1)
		wantLike(t, s[:i]+either("", "-", "+", ".", "e", "0", "x", " ", "é")+s[i:])
		wantLike(t, s[:i])
	}
}

func TestPrint(t *testing.T) { // P3.1
	for n, want := range map[int64]string{
		0: "0", 1: "0.0000001", -1: "-0.0000001", 10: "0.000001", 5000000: "0.5", -5000000: "-0.5", 9999999: "0.9999999", 10000000: "1", -10000000: "-1", 10000001: "1.0000001", -12500000: "-1.25", 11000000: "1.1", 10100000: "1.01",
		100000000: "10", 1000000000: "100", 123456789: "12.3456789", 1234567890: "123.456789", 1050000000: "105",
		most: "900000000000", -most: "-900000000000", most - 1: "899999999999.9999999", 1 - most: "-899999999999.9999999",
	} {
		if got, e := num.Print(n); got != want || e != api.OK {
			t.Errorf("Print(%d): %q, %d; want %q", n, got, e, want)
		}
	}
	for _, n := range []int64{most + 1, -most - 1, math.MaxInt64, math.MinInt64, math.MinInt64 + 1} {
		if got, e := num.Print(n); got != "" || e != api.ErrRange {
			t.Errorf("Print(%d): %q, %d", n, got, e)
		}
	}
}

// edges are numbers at which sums and products turn, in order.
func edges() []int64 {
	l := []int64{0, most, most - 1, most + 1, most / 2, most/2 + 1, most / 3, math.MaxInt64, 3 * api.Scale, 7, api.Scale + 1, api.Scale - 1, 9486832980505, 9486832980506, 20496382, 20496383, 20496384, 3_000_000_000, 4_000_000_000, 1 << 32, 1<<32 - 1, 1 << 62, 223372036854775807, 223372036854775808}
	for n := int64(1); n < most/10; n *= 10 {
		l = append(l, n, 2*n, 5*n, 9*n)
	}
	for _, n := range slices.Clone(l) {
		l = append(l, -n)
	}
	l = append(l, math.MinInt64)
	slices.Sort(l)
	return slices.Compact(l)
}

// wantSum fails, if Plus or Times tell something else than sums and products of great numbers.
func wantSum(t *testing.T, a, b int64) {
	t.Helper()
	x, y := big.NewRat(a, 1), big.NewRat(b, 1)
	sum, se := heldOf(new(big.Rat).Add(x, y))
	product, pe := heldOf(new(big.Rat).Mul(x, new(big.Rat).Mul(y, big.NewRat(1, api.Scale))))
	if a < -most || a > most || b < -most || b > most {
		sum, product, se, pe = 0, 0, api.ErrRange, api.ErrRange
	}
	if got, e := num.Plus(a, b); got != sum || e != se {
		t.Errorf("Plus(%d, %d): %d, %d; want %d, %d", a, b, got, e, sum, se)
	}
	if got, e := num.Times(a, b); got != product || e != pe {
		t.Errorf("Times(%d, %d): %d, %d; want %d, %d", a, b, got, e, product, pe)
	}
}

func TestPlusAndTimes(t *testing.T) { // P3.2
	if n, e := num.Times(api.Scale/2, api.Scale/2); n != api.Scale/4 || e != api.OK {
		t.Errorf("half a half: %d, %d", n, e)
	}
	l := edges()
	for _, a := range l {
		for _, b := range l {
			wantSum(t, a, b)
		}
	}
}

func TestPlusAndTimesByChance(t *testing.T) { // P3.2
	r := rand.New(rand.NewSource(4))
	number := func() int64 {
		n, power := r.Int63()>>r.Intn(63), int64(1)
		for range r.Intn(12) {
			power *= 10
		}
		n = n / power * power // often with 0 at its end, so that products are whole
		if r.Intn(2) == 0 {
			n = -n
		}
		return n
	}
	for range 100000 {
		a, b := number(), number()
		wantSum(t, a, b)
		wantSum(t, a, b/api.Scale*api.Scale)
		wantSum(t, a, most-a)
		wantSum(t, a, most-a+1)
		wantSum(t, -a, a-most-1)
	}
}

func TestThereAndBack(t *testing.T) { // P3.3
	r := rand.New(rand.NewSource(5))
	l := edges()
	for n := int64(-20000); n <= 20000; n++ {
		l = append(l, n, n*1000, n*1000003)
	}
	for range 100000 {
		n := (r.Int63() >> r.Intn(63)) % (most + 1)
		l = append(l, n, -n, n/100000*100000)
	}
	for _, n := range l {
		if n < -most || n > most {
			continue
		}
		s, e := num.Print(n)
		if e != api.OK || !plain.MatchString(s) || s == "-0" { // no shorter text has no exponent
			t.Fatalf("Print(%d): %q, %d", n, s, e)
		}
		wantParse(t, s, n, api.OK)
		if num.Scan(s) != len(s) {
			t.Errorf("Scan(%q): %d", s, num.Scan(s))
		}
	}
}
