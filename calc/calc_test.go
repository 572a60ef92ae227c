package calc

import (
	"errors"
	"math"
	"math/big"
	"math/rand"
	"regexp"
	"slices"
	"strconv"
	"strings"
	"testing"

	"mullion/api"
)

const leastFloat = math.SmallestNonzeroFloat64

var (
	inf       = math.Inf(1)
	nan       = math.NaN()
	minusZero = math.Copysign(0, -1)
)

// rising is floats of every kind, each ahead of the next one in the order of P2.4.
var rising = []float64{
	-inf, -math.MaxFloat64, -1e300, -9223372036854777856, -9223372036854775808, -9223372036854774784, -9007199254740992, -4503599627370495.5,
	-1e10, -101, -7, -2.5, -2, -1.5, -1, -0.75, -0.5, -0.49999999999999994, -0.125, -0.001, -2.2250738585072014e-308, -2.225073858507201e-308, -leastFloat, minusZero,
	0, leastFloat, 2.225073858507201e-308, 2.2250738585072014e-308, 0.001, 0.125, 0.49999999999999994, 0.5, 0.75, 1, 1.5, 2, 2.5, 7, 101, 1e10,
	4503599627370495.5, 9007199254740992, 9223372036854774784, 9223372036854775808, 9223372036854777856, 1e300, math.MaxFloat64, inf, nan,
}

// same tells if both are one float: 0 is not -0, NaN is NaN.
func same(a, b float64) bool {
	return math.IsNaN(a) && math.IsNaN(b) || a == b && math.Signbit(a) == math.Signbit(b)
}

// someFloats is n floats, of all sizes: any bits, some near to 1, some that are halves, hundredths, whole.
func someFloats(n int) []float64 {
	r := rand.New(rand.NewSource(1))
	var l []float64
	for range n {
		whole := float64(r.Int63n(1<<20) - 1<<19)
		l = append(l, math.Float64frombits(r.Uint64()), r.NormFloat64(), whole, whole/2, whole/100, whole/1024, math.Ldexp(r.NormFloat64(), r.Intn(140)-70))
	}
	return l
}

func exact(f float64) *big.Rat { return new(big.Rat).SetFloat64(f) }

// text is a text that Parse reads as f.
func text(f float64) string {
	return strings.ToLower(strconv.FormatFloat(f, 'e', -1, 64))
}

// signed is a float with that sign, if it is 0.
func signed(f float64, minus bool) float64 {
	if f == 0 && minus {
		return minusZero
	}
	return f
}

// P2.1

func TestParseExamples(t *testing.T) {
	for s, want := range map[string]float64{
		"1.5": 1.5, "-0": minusZero, "+inf": inf, "1e400": inf, "-1e-400": minusZero, "5e-324": leastFloat,
		"0": 0, "+0": 0, "-0.000e5": minusZero, "-1.5": -1.5, "+1.5": 1.5, "inf": inf, "-inf": -inf, "nan": nan, "-nan": nan, "+nan": nan,
		"007": 7, "1e2": 100, "1E2": 100, "1e+2": 100, "1E-2": 0.01, "1e0002": 100, "00.00e00": 0, "1.50": 1.5, "-1e400": -inf, "1e-400": 0,
	} {
		if f, errno := Parse(s); errno != api.OK || !same(f, want) {
			t.Errorf("Parse(%q): %v, %v; must be %v", s, f, errno, want)
		}
	}
	for _, s := range []string{
		"", "1.", ".5", "Inf", "1e", " 1", "0x1", "1 ", "-", "+", "--1", "+-1", "-+inf", "1e+", "1e--2", "1.e2", "1..2", "1.2.3", "1e2e3", "1e2.5", "e5", "-e5", ".", "-.5",
		"INF", "NaN", "NAN", "infinity", "in", "na", "inff", "nann", "nan0", "1inf", "inf1", "- 1", "1_000", "0b1", "0o7", "0x1p3", "1p3", "1,5", "1f", "1i", "\x001", "1\x00", "1\n", "\u0661", "\uff11", "\u22121", "\xff",
	} {
		if f, errno := Parse(s); errno != api.ErrForm || !same(f, 0) {
			t.Errorf("Parse(%q): %v, %v; must be ErrForm", s, f, errno)
		}
	}
}

var number = regexp.MustCompile(`^[-+]?(inf|nan|[0-9]+(\.[0-9]+)?([eE][-+]?[0-9]+)?)$`)

func checkForm(t *testing.T, s string) {
	f, errno := Parse(s)
	want := api.OK
	if !number.MatchString(s) {
		want = api.ErrForm
	}
	if errno != want || errno != api.OK && !same(f, 0) {
		t.Fatalf("Parse(%q): %v, %v; must be %v", s, f, errno, want)
	}
}

func TestParseForms(t *testing.T) {
	var more func(s string, n int)
	more = func(s string, n int) {
		checkForm(t, s)
		if n == 0 {
			return
		}
		for _, p := range []string{"0", "9", ".", "e", "E", "+", "-", "inf", "nan", "_", "x"} {
			more(s+p, n-1)
		}
	}
	more("", 6)
	for _, s := range []string{"0", "-12", "+3.45", "1.5e-6", "2E+7", "inf", "-nan"} {
		for i := range len(s) + 1 {
			for b := range 256 {
				c := string([]byte{byte(b)})
				checkForm(t, s[:i]+c+s[i:])
				checkForm(t, s[:i]+c+s[min(i+1, len(s)):])
			}
		}
	}
}

func TestParseLong(t *testing.T) {
	for _, c := range []struct {
		s     string
		want  float64
		errno api.Errno
	}{
		{strings.Repeat("0", 63) + "7", 7, api.OK},
		{strings.Repeat("0", 64) + "7", 0, api.ErrLong},
		{"-" + strings.Repeat("0", 62) + "7", -7, api.OK},
		{"-" + strings.Repeat("0", 63) + "7", 0, api.ErrLong},
		{"1e" + strings.Repeat("9", 62), inf, api.OK},
		{"1e-" + strings.Repeat("9", 61), 0, api.OK},
		{"-0e" + strings.Repeat("9", 61), minusZero, api.OK},
		{"1e" + strings.Repeat("0", 61) + "2", 100, api.OK},
		{"1e-" + strings.Repeat("0", 60) + "1", 0.1, api.OK},
		{"0." + strings.Repeat("0", 57) + "1e58", 1, api.OK},
		{strings.Repeat("9", 64), 1e64, api.OK},
		{strings.Repeat("x", 64), 0, api.ErrForm},
		{strings.Repeat("x", 65), 0, api.ErrLong},
		{strings.Repeat(" ", 100000), 0, api.ErrLong},
		{strings.Repeat("0", 100000), 0, api.ErrLong},
	} {
		if f, errno := Parse(c.s); errno != c.errno || !same(f, c.want) {
			t.Errorf("Parse(%.70q): %v, %v; must be %v, %v", c.s, f, errno, c.want, c.errno)
		}
	}
}

func TestParseRoundsHalves(t *testing.T) {
	for s, want := range map[string]float64{
		"9007199254740993":                 9007199254740992,
		"9007199254740993.0":               9007199254740992,
		"9007199254740993.000000000000001": 9007199254740994,
		"9007199254740995":                 9007199254740996,
		"1.00000000000000011102230246251565404236316680908203125":     1,
		"1.00000000000000011102230246251565404236316680908203126":     1 + 0x1p-52,
		"1.00000000000000033306690738754696212708950042724609375":     1 + 0x1p-51,
		"-1.00000000000000011102230246251565404236316680908203126":    -1 - 0x1p-52,
		"1.7976931348623157e308":                                      math.MaxFloat64,
		"1.797693134862315807937289714053034150799341327100378e308":   math.MaxFloat64,
		"1.797693134862315807937289714053034150799341327100379e308":   inf,
		"-1.797693134862315807937289714053034150799341327100379e+308": -inf,
		"2.470328229206232720882843964341106861825299013071623e-324":  0,
		"-2.470328229206232720882843964341106861825299013071623e-324": minusZero,
		"2.470328229206232720882843964341106861825299013071624e-324":  leastFloat,
		"2.225073858507201e-308":                                      0x0.fffffffffffffp-1022,
		"2.2250738585072012e-308":                                     0x1p-1022,
	} {
		if f, errno := Parse(s); errno != api.OK || !same(f, want) {
			t.Errorf("Parse(%q): %v, %v; must be %v", s, f, errno, want)
		}
	}
}

func TestParseRounds(t *testing.T) {
	r := rand.New(rand.NewSource(2))
	for range 20000 {
		s := strconv.FormatUint(r.Uint64()>>r.Intn(64), 10)
		if r.Intn(2) == 0 {
			s += "." + strconv.FormatUint(r.Uint64()>>r.Intn(64), 10)
		}
		if r.Intn(2) == 0 {
			s += "e" + strconv.Itoa(r.Intn(720)-370)
		}
		if r.Intn(2) == 0 {
			s = "-" + s
		}
		exactly, ok := new(big.Rat).SetString(s)
		if !ok {
			t.Fatal(s)
		}
		want, _ := exactly.Float64()
		want = signed(want, s[0] == '-')
		if f, errno := Parse(s); errno != api.OK || !same(f, want) {
			t.Fatalf("Parse(%q): %v, %v; must be %v", s, f, errno, want)
		}
	}
}

// P2.2

func TestPrintExamples(t *testing.T) {
	for _, c := range []struct {
		f      float64
		places int
		want   string
	}{
		{2.5, 0, "2"}, {0.125, 2, "0.12"}, {minusZero, 2, "-0.00"}, {1e21, 0, "1000000000000000000000"}, {nan, 3, "nan"}, {-0.001, 2, "-0.00"}, {1, 99, "1.00000000000000000000"},
		{3.5, 0, "4"}, {-2.5, 0, "-2"}, {-3.5, 0, "-4"}, {0.5, 0, "0"}, {-0.5, 0, "-0"}, {1.5, 0, "2"}, {0.375, 2, "0.38"}, {0.625, 2, "0.62"}, {-0.375, 2, "-0.38"},
		{0.15, 1, "0.1"}, {0.25, 1, "0.2"}, {0.35, 1, "0.3"}, {2.675, 2, "2.67"}, {1.005, 2, "1.00"}, {0.1, 20, "0.10000000000000000555"},
		{9.5, 0, "10"}, {9.99, 1, "10.0"}, {-99.999, 2, "-100.00"}, {0.996, 2, "1.00"}, {0.05, 0, "0"},
		{0, 0, "0"}, {0, 2, "0.00"}, {minusZero, 0, "-0"}, {12, 0, "12"}, {12, 1, "12.0"}, {-12, 3, "-12.000"},
		{inf, 0, "inf"}, {inf, 20, "inf"}, {-inf, 5, "-inf"}, {nan, 0, "nan"}, {math.Copysign(nan, -1), 0, "nan"}, {math.Float64frombits(0xfff8000000000123), 2, "nan"},
		{leastFloat, 20, "0.00000000000000000000"}, {-leastFloat, 3, "-0.000"}, {leastFloat, 0, "0"},
		{1.5, -1, "2"}, {2.5, math.MinInt, "2"}, {1.5, 20, "1.50000000000000000000"}, {1.5, 21, "1.50000000000000000000"}, {1.5, math.MaxInt, "1.50000000000000000000"}, {inf, math.MaxInt, "inf"}, {nan, -1, "nan"},
		{1e22, 1, "10000000000000000000000.0"}, {1e23, 0, "99999999999999991611392"}, {-9007199254740993, 0, "-9007199254740992"},
	} {
		if s := Print(c.f, c.places); s != c.want {
			t.Errorf("Print(%v, %d): %s, must be %s", c.f, c.places, s, c.want)
		}
	}
}

// printed is Print of a finite float, by whole numbers of any size.
func printed(f float64, places int) string {
	scale := new(big.Int).Exp(big.NewInt(10), big.NewInt(int64(places)), nil)
	scaled := new(big.Rat).Mul(exact(math.Abs(f)), new(big.Rat).SetInt(scale))
	n, rest := new(big.Int).QuoRem(scaled.Num(), scaled.Denom(), new(big.Int))
	if c := rest.Lsh(rest, 1).Cmp(scaled.Denom()); c > 0 || c == 0 && n.Bit(0) == 1 {
		n.Add(n, big.NewInt(1))
	}
	s := n.String()
	s = strings.Repeat("0", max(places+1-len(s), 0)) + s
	if places > 0 {
		s = s[:len(s)-places] + "." + s[len(s)-places:]
	}
	if math.Signbit(f) {
		s = "-" + s
	}
	return s
}

func TestPrintIsExact(t *testing.T) {
	for _, f := range append(someFloats(1000), rising...) {
		if math.IsNaN(f) || math.IsInf(f, 0) {
			continue
		}
		for places := range 21 {
			if s, want := Print(f, places), printed(f, places); s != want {
				t.Fatalf("Print(%v, %d): %s, must be %s", f, places, s, want)
			}
		}
	}
}

// P2.3

func TestWholeExamples(t *testing.T) {
	for _, c := range []struct {
		f    float64
		want int
	}{
		{2.5, 3}, {-2.5, -3}, {1e300, math.MaxInt}, {nan, 0}, {-nan, 0}, {inf, math.MaxInt}, {-inf, math.MinInt}, {-1e300, math.MinInt},
		{0, 0}, {minusZero, 0}, {0.5, 1}, {-0.5, -1}, {0.49999999999999994, 0}, {-0.49999999999999994, 0}, {0.75, 1}, {1.5, 2}, {-1.5, -2}, {1.4, 1}, {-1.4, -1}, {leastFloat, 0}, {-leastFloat, 0},
		{4503599627370495.5, 4503599627370496}, {4503599627370497.5, 4503599627370498}, {-4503599627370495.5, -4503599627370496}, {4503599627370497, 4503599627370497}, {9007199254740991, 9007199254740991},
		{0x1p63, math.MaxInt}, {-0x1p63, math.MinInt}, {math.Nextafter(0x1p63, 0), math.MaxInt - 1023}, {math.Nextafter(-0x1p63, 0), math.MinInt + 1024}, {math.Nextafter(0x1p63, inf), math.MaxInt}, {math.Nextafter(-0x1p63, -inf), math.MinInt},
	} {
		if n := Whole(c.f); n != c.want {
			t.Errorf("Whole(%v): %d, must be %d", c.f, n, c.want)
		}
	}
}

func TestWholeIsNearest(t *testing.T) {
	for _, f := range append(someFloats(5000), rising...) {
		if !(math.Abs(f) < 0x1p63) {
			continue
		}
		far := new(big.Rat).Abs(new(big.Rat).Sub(exact(f), new(big.Rat).SetInt64(int64(Whole(f)))))
		c := far.Cmp(big.NewRat(1, 2))
		if c > 0 || c == 0 && math.Abs(float64(Whole(f))) < math.Abs(f) {
			t.Errorf("Whole(%v): %d", f, Whole(f))
		}
	}
}

func TestShareExamples(t *testing.T) {
	for _, c := range []struct {
		size    int
		percent float64
		want    int
	}{
		{80, 50, 40}, {81, 50, 41}, {80, 1e300, 80}, {80, -5, 0},
		{0, 50, 0}, {-1, 50, 0}, {-80, -50, 0}, {math.MinInt, 50, 0}, {0, inf, 0}, {-1, nan, 0}, {80, nan, 0}, {math.MaxInt, nan, 0},
		{80, inf, 80}, {80, -inf, 0}, {80, 0, 0}, {80, minusZero, 0}, {80, 100, 80}, {80, 100.1, 80}, {80, 200, 80}, {80, 99.9, 80}, {80, 99.3, 79},
		{1, 49, 0}, {1, 50, 1}, {1, 49.99999999999999, 0}, {3, 50, 2}, {5, 50, 3}, {80, leastFloat, 0}, {80, math.MaxFloat64, 80}, {80, -math.MaxFloat64, 0},
		// Just so rounded: by percent / 100 the first would be 14, by size / 100 the second one 28.
		{50, 29, 15}, {57, 50, 29},
		{math.MaxInt, 100, math.MaxInt}, {math.MaxInt, 50, 1 << 62}, {math.MaxInt, 150, math.MaxInt}, {math.MaxInt - 100, 100, math.MaxInt - 100}, {math.MaxInt - 512, 100, math.MaxInt - 1023}, {1<<53 + 1, 100, 1 << 53}, {1<<53 + 3, 100, 1<<53 + 3}, {math.MaxInt, 1e-17, 1},
	} {
		if n := Share(c.size, c.percent); n != c.want {
			t.Errorf("Share(%d, %v): %d, must be %d", c.size, c.percent, n, c.want)
		}
	}
}

func TestShareIsRoundedTwice(t *testing.T) {
	for size := 1; size <= 250; size++ {
		for percent := range 202 {
			for _, p := range []float64{float64(percent), float64(percent) + 0.3, float64(percent) / 7} {
				product, _ := new(big.Rat).Mul(exact(float64(size)), exact(p)).Float64()
				part, _ := new(big.Rat).Quo(exact(product), exact(100)).Float64()
				if n, want := Share(size, p), min(Whole(part), size); n != want {
					t.Fatalf("Share(%d, %v): %d, must be %d", size, p, n, want)
				}
			}
		}
	}
}

// P2.4

func TestLess(t *testing.T) {
	for _, c := range []struct {
		a, b float64
		want bool
	}{
		{minusZero, 0, true}, {0, minusZero, false}, {inf, nan, true}, {nan, nan, false}, {nan, inf, false}, {nan, -inf, false}, {-inf, nan, true},
		{0, 0, false}, {minusZero, minusZero, false}, {inf, inf, false}, {-inf, -inf, false}, {1, 2, true}, {2, 1, false}, {-1, -2, false}, {-leastFloat, minusZero, true}, {0, leastFloat, true}, {math.Copysign(nan, -1), nan, false}, {nan, math.Copysign(nan, -1), false}, {math.Copysign(nan, -1), -inf, false},
	} {
		if is := Less(c.a, c.b); is != c.want {
			t.Errorf("Less(%v, %v): %v", c.a, c.b, is)
		}
	}
	for i, a := range rising {
		for j, b := range rising {
			if Less(a, b) != (i < j) {
				t.Errorf("Less(%v, %v): %v", a, b, Less(a, b))
			}
		}
	}
}

// P2.5

var operations = []string{"+", "-", "*", "/", "m", "==", "!=", "<", ">", "<=", ">="}

func TestReckonExamples(t *testing.T) {
	for _, c := range []struct {
		op, left, right string
		floats          bool
		places          int
		want            string
		errno           api.Errno
	}{
		{"/", "7", "2", true, 2, "3.50", api.OK}, {"/", "7", "2", false, 2, "3", api.OK}, {"/", "1", "-0", true, 0, "-inf", api.OK}, {"/", "1", "-0", false, 0, "9223372036854775807", api.OK}, {"m", "-7", "2", true, 1, "-1.0", api.OK}, {"m", "5", "0", false, 0, "0", api.OK},
		{"==", "nan", "nan", true, 0, "0", api.OK}, {"<=", "-0", "0", true, 0, "1", api.OK}, {"<=", "-0", "0", false, 0, "1", api.OK}, {"%", "1", "1", true, 0, "", api.ErrArg}, {"+", "x", "1", true, 0, "", api.ErrForm},
		{"+", "1", "2", false, 0, "3", api.OK}, {"-", "1", "2", false, 0, "-1", api.OK}, {"*", "-3", "4", false, 0, "-12", api.OK}, {"+", "0.1", "0.2", true, 17, "0.30000000000000004", api.OK}, {"+", "1", "2", true, 0, "3", api.OK},
		// Each of both is whole ahead of the operation.
		{"+", "0.5", "0.5", false, 0, "2", api.OK}, {"+", "0.4", "0.4", false, 0, "0", api.OK}, {"-", "-2.5", "2.5", false, 0, "-6", api.OK}, {"*", "1.5", "1.5", false, 9, "4", api.OK}, {"/", "1", "0.4", false, 0, "9223372036854775807", api.OK}, {"m", "7.5", "2.5", false, 0, "2", api.OK}, {"m", "7.5", "2.5", true, 1, "0.0", api.OK},
		{"==", "1.4", "0.6", false, 0, "1", api.OK}, {"==", "1.4", "0.6", true, 0, "0", api.OK}, {"<", "1.4", "1.6", false, 0, "1", api.OK}, {"<", "1.6", "2.4", false, 0, "0", api.OK}, {"<", "1.6", "2.4", true, 0, "1", api.OK},
		{"+", "nan", "5", false, 0, "5", api.OK}, {"==", "nan", "nan", false, 0, "1", api.OK}, {"==", "nan", "0", false, 0, "1", api.OK}, {"==", "inf", "1e300", false, 0, "1", api.OK}, {"==", "inf", "1e300", true, 0, "0", api.OK}, {"-", "inf", "inf", false, 0, "0", api.OK}, {"-", "inf", "inf", true, 0, "nan", api.OK}, {"<", "-inf", "inf", false, 0, "1", api.OK},
		{"+", "inf", "0", false, 0, "9223372036854775807", api.OK}, {"+", "-inf", "0", false, 0, "-9223372036854775808", api.OK}, {"-", "inf", "1", false, 0, "9223372036854775807", api.OK}, {"+", "-inf", "-inf", false, 0, "-9223372036854775808", api.OK}, {"+", "9007199254740992", "1", false, 0, "9007199254740992", api.OK}, {"*", "3037000500", "3037000500", false, 0, "9223372036854775807", api.OK},
		// The fraction is cut off, not rounded.
		{"/", "-7", "2", false, 0, "-3", api.OK}, {"/", "5", "3", false, 0, "1", api.OK}, {"/", "-5", "3", false, 0, "-1", api.OK}, {"/", "-1", "3", false, 0, "0", api.OK}, {"/", "0", "0", false, 0, "0", api.OK}, {"/", "-1", "0", false, 0, "-9223372036854775808", api.OK}, {"m", "-7", "2", false, 20, "-1", api.OK}, {"m", "-6", "2", false, 0, "0", api.OK}, {"m", "-6", "2", true, 0, "-0", api.OK}, {"m", "-0", "2", true, 0, "-0", api.OK}, {"m", "6", "-2", true, 0, "0", api.OK},
		// With floats it is rounded.
		{"/", "5", "3", true, 0, "2", api.OK}, {"/", "5", "2", true, 0, "2", api.OK}, {"/", "-1", "3", true, 0, "-0", api.OK}, {"/", "2", "3", true, 20, "0.66666666666666662966", api.OK},
		{"<", "1", "2", true, 20, "1", api.OK}, {">=", "1", "2", true, 3, "0", api.OK},
	} {
		if s, errno := Reckon(c.op, c.left, c.right, c.floats, c.places); s != c.want || errno != c.errno {
			t.Errorf("Reckon(%q, %q, %q, %v, %d): %q, %v; must be %q, %v", c.op, c.left, c.right, c.floats, c.places, s, errno, c.want, c.errno)
		}
	}
}

func TestReckonErrors(t *testing.T) {
	long := strings.Repeat("1", 65)
	refuse := func(op, left, right string, places int, want api.Errno) {
		t.Helper()
		for _, floats := range []bool{false, true} {
			if s, errno := Reckon(op, left, right, floats, places); s != "" || !errors.Is(errno, want) {
				t.Errorf("Reckon(%q, %.10q, %.10q, %v, %d): %q, %v; must be %v", op, left, right, floats, places, s, errno, want)
			}
		}
	}
	for _, op := range []string{"", " ", "%", "=", "!", "===", "=<", "=>", "<>", "M", "mm", "++", "+ ", " +", "**", "//", "mod", "<\x00", "\xff", "\u2212", "nan", strings.Repeat("+", 70000)} {
		refuse(op, "1", "1", 0, api.ErrArg)
		refuse(op, long, "x", 0, api.ErrArg)
	}
	for _, op := range operations {
		for _, places := range []int{math.MinInt, -1, 21, math.MaxInt} {
			refuse(op, "1", "1", places, api.ErrArg)
			refuse(op, long, "x", places, api.ErrArg)
		}
		for _, places := range []int{0, 20} {
			refuse(op, long, "1", places, api.ErrLong)
			refuse(op, "1", long, places, api.ErrLong)
			refuse(op, "x", "1", places, api.ErrForm)
			refuse(op, "1", "x", places, api.ErrForm)
			refuse(op, "", "", places, api.ErrForm)
			refuse(op, long, "x", places, api.ErrLong)
			refuse(op, "x", long, places, api.ErrForm)
			if s, errno := Reckon(op, "1", "1", true, places); s == "" || errno != api.OK {
				t.Errorf("%s with %d places: %q, %v", op, places, s, errno)
			}
		}
	}
}

// reckoned is one of the first five operations, by the rules of IEEE 754 and of the chapter, over fractions that are exact.
func reckoned(op string, a, b float64) float64 {
	if math.IsNaN(a) || math.IsNaN(b) {
		return nan
	}
	minus := math.Signbit(a) != math.Signbit(b)
	infinite := math.IsInf(a, 0) || math.IsInf(b, 0)
	switch {
	case op == "-":
		return reckoned("+", a, -b)
	case op == "+" && infinite:
		if math.IsInf(a, 0) && math.IsInf(b, 0) && minus {
			return nan
		}
		if math.IsInf(a, 0) {
			return a
		}
		return b
	case op == "+":
		f, _ := new(big.Rat).Add(exact(a), exact(b)).Float64()
		return signed(f, math.Signbit(a) && math.Signbit(b))
	case op == "m":
		return remainder(a, b)
	case op == "*" && infinite:
		if a == 0 || b == 0 {
			return nan
		}
		return math.Copysign(inf, signed(0, minus))
	case op == "*":
		f, _ := new(big.Rat).Mul(exact(a), exact(b)).Float64()
		return signed(f, minus)
	case math.IsInf(a, 0) && math.IsInf(b, 0) || a == 0 && b == 0:
		return nan
	case math.IsInf(a, 0) || b == 0:
		return math.Copysign(inf, signed(0, minus))
	case math.IsInf(b, 0):
		return signed(0, minus)
	}
	f, _ := new(big.Rat).Quo(exact(a), exact(b)).Float64()
	return signed(f, minus)
}

func remainder(a, b float64) float64 {
	if math.IsInf(a, 0) || b == 0 {
		return nan
	}
	if math.IsInf(b, 0) {
		return a
	}
	q := new(big.Rat).Quo(exact(a), exact(b))
	whole := new(big.Rat).SetInt(new(big.Int).Quo(q.Num(), q.Denom()))
	f, ok := new(big.Rat).Sub(exact(a), whole.Mul(whole, exact(b))).Float64()
	if !ok {
		panic("what is left of a division is no float")
	}
	return signed(f, math.Signbit(a))
}

func checkArithmetic(t *testing.T, a, b float64) {
	for _, op := range operations[:5] {
		want := reckoned(op, a, b)
		if f := result(op, a, b); !same(f, want) {
			t.Fatalf("%v %s %v: %v, must be %v", a, op, b, f, want)
		}
		if s, errno := Reckon(op, text(a), text(b), true, 20); s != Print(want, 20) || errno != api.OK {
			t.Fatalf("Reckon %v %s %v: %s, %v; must be %s", a, op, b, s, errno, Print(want, 20))
		}
		whole := reckoned(op, float64(Whole(a)), float64(Whole(b)))
		if s, errno := Reckon(op, text(a), text(b), false, 20); s != strconv.Itoa(Whole(math.Trunc(whole))) || errno != api.OK {
			t.Fatalf("Reckon whole %v %s %v: %s, %v; must be that of %v", a, op, b, s, errno, whole)
		}
	}
}

func TestArithmetic(t *testing.T) {
	for _, a := range rising {
		for _, b := range rising {
			checkArithmetic(t, a, b)
		}
	}
	l := someFloats(300)
	for i, a := range l {
		checkArithmetic(t, a, l[(i*i+1)%len(l)])
	}
}

func TestComparisons(t *testing.T) {
	for i, a := range rising {
		for j, b := range rising {
			order := i - j
			if a == 0 && b == 0 {
				order = 0
			}
			number := !math.IsNaN(a) && !math.IsNaN(b)
			for op, want := range map[string]bool{"==": number && order == 0, "!=": !number || order != 0, "<": number && order < 0, ">": number && order > 0, "<=": number && order <= 0, ">=": number && order >= 0} {
				if s, errno := Reckon(op, text(a), text(b), true, 7); s != truth(want) || errno != api.OK {
					t.Errorf("Reckon %v %s %v: %s, %v", a, op, b, s, errno)
				}
				x, y := Whole(a), Whole(b)
				want := map[string]bool{"==": x == y, "!=": x != y, "<": x < y, ">": x > y, "<=": x <= y, ">=": x >= y}[op]
				if s, errno := Reckon(op, text(a), text(b), false, 7); s != truth(want) || errno != api.OK {
					t.Errorf("Reckon whole %v %s %v: %s, %v", a, op, b, s, errno)
				}
			}
		}
	}
}

// P2.6

func TestLessIsAnOrder(t *testing.T) {
	for _, a := range rising {
		for _, b := range rising {
			if ahead := Less(a, b) != Less(b, a); ahead == same(a, b) || Less(a, b) && Less(b, a) {
				t.Fatalf("%v and %v", a, b)
			}
			for _, c := range rising {
				if Less(a, b) && Less(b, c) && !Less(a, c) {
					t.Fatalf("%v, %v and %v", a, b, c)
				}
			}
		}
	}
	l := append(someFloats(1000), rising...)
	slices.SortFunc(l, func(a, b float64) int {
		switch {
		case Less(a, b):
			return -1
		case Less(b, a):
			return 1
		}
		return 0
	})
	for i := 1; i < len(l); i++ {
		if !same(l[i-1], l[i]) && !Less(l[i-1], l[i]) {
			t.Fatalf("%v stands ahead of %v", l[i-1], l[i])
		}
	}
}

func someWhole() []int {
	r := rand.New(rand.NewSource(3))
	l := []int{0, 1, -1, 9, 10, -10, 1 << 53, -1 << 53, 1<<53 - 1, 1 - 1<<53}
	for range 5000 {
		l = append(l, int(r.Int63n(1<<54)-1<<53)>>r.Intn(54))
	}
	return l
}

func TestWholeNumbersComeBack(t *testing.T) {
	for _, n := range someWhole() {
		for _, places := range []int{0, 3, 20} {
			if f, errno := Parse(Print(float64(n), places)); f != float64(n) || int(f) != n || errno != api.OK {
				t.Fatalf("%d comes back as %v, %v", n, f, errno)
			}
		}
	}
}

func TestSumsOfWholeNumbers(t *testing.T) {
	l := someWhole()
	for i, a := range l {
		b := l[(i*i+1)%len(l)]
		if a+b > 1<<53 || a+b < -1<<53 {
			continue
		}
		for _, floats := range []bool{false, true} {
			if s, errno := Reckon("+", strconv.Itoa(a), strconv.Itoa(b), floats, 0); s != strconv.Itoa(a+b) || errno != api.OK {
				t.Fatalf("%d + %d: %s, %v", a, b, s, errno)
			}
		}
	}
}

// P1 to P6

func FuzzAnything(f *testing.F) {
	for _, s := range []string{"", "1", "-0.5e-7", "inf", "nan", "1e400", "x"} {
		for _, op := range append(operations, "", "%") {
			f.Add(op, s, "2", true, 3)
			f.Add(op, "-7", s, false, -1)
		}
	}
	f.Fuzz(func(t *testing.T, op, left, right string, floats bool, places int) {
		_, leftErrno := Parse(left)
		_, rightErrno := Parse(right)
		want := leftErrno
		if want == api.OK {
			want = rightErrno
		}
		if !slices.Contains(operations, op) || places < 0 || places > 20 {
			want = api.ErrArg
		}
		s, errno := Reckon(op, left, right, floats, places)
		if errno != want || (s == "") != (errno != api.OK) {
			t.Fatalf("%q, %v; must be %v", s, errno, want)
		}
		if again, _ := Reckon(op, left, right, floats, places); again != s {
			t.Fatalf("%q, then %q", s, again)
		}
	})
}
