package real

import (
	"math"
	"math/big"
	"math/rand"
	"strconv"
	"strings"
	"testing"
)

// R1: Parse.
func TestParse(t *testing.T) {
	for s, want := range map[string]float64{
		"1.50": 1.5, ".5": .5, "0": 0, "00012": 12, "-.5e1": -5, "1e3": 1000, "1E+3": 1000, "1e-3": .001, "0.1": .1, "12.5e00": 12.5,
		"1.7976931348623157e308": math.MaxFloat64, "1.7976931348623158e308": math.MaxFloat64, "5e-324": 5e-324, "2.4703282292062328e-324": 5e-324, "2.4703282292062327e-324": 0, "1e-99999999999999999999": 0, "0e99999999999999999999999999999999": 0,
		"9007199254740993": 9007199254740992, "9007199254740995": 9007199254740996, "9007199254740993.0000000000000000000001": 9007199254740994, strings.Repeat("0", 39) + "7": 7,
	} {
		if x, ok := Parse(s); x != want || !ok {
			t.Errorf("Parse(%q): %v, %v", s, x, ok)
		}
	}
	for _, s := range []string{"-0", "-0.0e5", "-1e-999"} {
		if x, ok := Parse(s); math.Float64bits(x) != 1<<63 || !ok {
			t.Errorf("Parse(%q): %v, %v", s, x, ok)
		}
	}
	for _, s := range []string{"0", "1e-999"} {
		if x, _ := Parse(s); math.Float64bits(x) != 0 {
			t.Errorf("Parse(%q): %v", s, x)
		}
	}
}

// R1: what is no numeral, or has no value.
func TestParseWrong(t *testing.T) {
	for _, s := range []string{"", "1e400", "-1e400", "1.7976931348623159e308", "1e99999999999999999999", "+1", "1.", "0x1", "0x1p3", ".", "-", "-.", "--1", "e1", "1e", "1e+", "1e-", "1.e1", ".e1", "1e1.5", "1e1e1", "1_0", "0b1", "Inf", "inf", "NaN", "infinity", " 1", "1 ", "1,5", "1\x00", "1e++1", "١", strings.Repeat("1", 41), strings.Repeat("0", 41)} {
		if x, ok := Parse(s); x != 0 || ok {
			t.Errorf("Parse(%q): %v, %v", s, x, ok)
		}
		if f, ok := Fix(s); f != "" || ok {
			t.Errorf("Fix(%q): %q, %v", s, f, ok)
		}
	}
}

// R1: Print and Fix, each row of the table and its edges.
func TestFix(t *testing.T) {
	for s, want := range map[string]string{
		"1.50": "1.5", "-0": "0", "0": "0", "1e21": "1e+21", "1e20": "100000000000000000000", "123456789e13": "1.23456789e+21", "123456789e12": "123456789000000000000", "0.000001": "0.000001", "1e-7": "1e-7", "1.5e-7": "1.5e-7", "0.0000012": "0.0000012", "5e-324": "5e-324", "-12.5E+1": "-125",
		"999999999999999999999": "1e+21", "999999999999999900000": "999999999999999900000", "12.345": "12.345", "-0.5": "-0.5", "1e308": "1e+308", "1.7976931348623157e308": "1.7976931348623157e+308", "0.1": "0.1", "100": "100", "123456.789": "123456.789", "-1e-9": "-1e-9", "-1e99": "-1e+99", "2e-10": "2e-10",
		"9.5367431640625e-07": "9.5367431640625e-7", "5.684341886080801486968994140625e-14": "5.684341886080802e-14",
	} {
		if f, ok := Fix(s); f != want || !ok {
			t.Errorf("Fix(%q): %q, %v", s, f, ok)
		}
	}
	for _, x := range []float64{math.NaN(), math.Inf(1), math.Inf(-1)} {
		if s := Print(x); s != "" {
			t.Errorf("Print(%v): %q", x, s)
		}
	}
	if Print(math.Copysign(0, -1)) != "0" {
		t.Errorf("Print of -0")
	}
}

// within tells whether a numeral's value is x, reckoned exactly.
func within(s string, x float64) bool {
	r, ok := new(big.Rat).SetString(s)
	if !ok {
		return false
	}
	y, _ := r.Float64()
	return y == x
}

// R1, R5: a text has its float's value, and no text of fewer digits has.
func TestPrintShortest(t *testing.T) {
	rnd := rand.New(rand.NewSource(10))
	for i := 0; i < 20000; i++ {
		x := math.Float64frombits(rnd.Uint64())
		switch i % 3 {
		case 1:
			x = math.Ldexp(1, rnd.Intn(2098)-1074)
		case 2:
			x = float64(rnd.Intn(1e9)) / math.Pow10(rnd.Intn(12))
		}
		if x != x || math.IsInf(x, 0) {
			continue
		}
		s := Print(x)
		y, ok := Parse(s)
		if y != x || !ok {
			t.Fatalf("Parse(Print(%v)): %v, %v", x, y, ok)
		}
		if f, ok := Fix(s); f != s || !ok {
			t.Fatalf("Fix(%q): %q", s, f)
		}
		if x == 0 {
			continue
		}
		if !within(s, x) {
			t.Fatalf("Print(%v): %q", x, s)
		}
		k := len(strings.Trim(strings.SplitN(strings.NewReplacer(".", "", "-", "").Replace(s+"e"), "e", 2)[0], "0"))
		if k > 1 && within(strconv.FormatFloat(x, 'e', k-2, 64), x) {
			t.Fatalf("Print(%v): %q has more digits than it needs", x, s)
		}
	}
}

// R2: Compare.
func TestCompare(t *testing.T) {
	nought, minus, inf, nan := 0.0, math.Copysign(0, -1), math.Inf(1), math.NaN()
	for _, a := range []struct {
		a, b float64
		n    int
	}{{nought, minus, 0}, {minus, nought, 0}, {nan, inf, 1}, {inf, nan, -1}, {nan, nan, 0}, {1, 2, -1}, {2, 1, 1}, {inf, inf, 0}, {-inf, inf, -1}, {-1, minus, -1}, {nan, -1, 1}, {5e-324, 0, 1}} {
		if n := Compare(a.a, a.b); n != a.n {
			t.Errorf("Compare(%v, %v): %d", a.a, a.b, n)
		}
	}
}

// R3: Clamp.
func TestClamp(t *testing.T) {
	minus, inf, nan := math.Copysign(0, -1), math.Inf(1), math.NaN()
	for _, a := range []struct{ x, lo, hi, want float64 }{{nan, 2, 5, 2}, {7, 2, 5, 5}, {1, 2, nan, 2}, {3, 5, 2, 5}, {minus, nan, nan, 0}, {nan, nan, nan, 0}, {nan, -2, -1, -1}, {3, 2, 5, 3}, {7, nan, 5, 5}, {inf, nan, nan, inf}, {-inf, 0, 1, 0}, {-1, minus, 5, 0}, {1, -5, minus, 0}, {1, -inf, inf, 1}, {0, minus, minus, 0}, {6, 5, 2, 2}} {
		if x := Clamp(a.x, a.lo, a.hi); math.Float64bits(x) != math.Float64bits(a.want) {
			t.Errorf("Clamp(%v, %v, %v): %v", a.x, a.lo, a.hi, x)
		}
	}
}

// R4: Whole.
func TestWhole(t *testing.T) {
	for _, a := range []struct {
		s         string
		lo, hi, n int
		ok        bool
	}{
		{"12", 0, 999, 12, true}, {"012", 0, 999, 0, false}, {"0", 0, 999, 0, true}, {"1000", 0, 999, 0, false}, {"999", 0, 999, 999, true}, {"999999999", 0, math.MaxInt, 999999999, true}, {"1000000000", 0, math.MaxInt, 0, false}, {"0000000001", 0, 9, 0, false}, {"00", 0, 9, 0, false},
		{"", 0, 9, 0, false}, {"-1", -9, 9, 0, false}, {"+1", 0, 9, 0, false}, {"1.", 0, 9, 0, false}, {" 1", 0, 9, 0, false}, {"1a", 0, 9, 0, false}, {"٣", 0, 9, 0, false}, {"5", 6, 9, 0, false}, {"5", 9, 6, 0, false}, {"0", 1, 9, 0, false}, {"5", math.MinInt, math.MaxInt, 5, true},
	} {
		if n, ok := Whole(a.s, a.lo, a.hi); n != a.n || ok != a.ok {
			t.Errorf("Whole(%q, %d, %d): %d, %v", a.s, a.lo, a.hi, n, ok)
		}
	}
}
