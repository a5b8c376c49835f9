package num

import (
	"math"
	"math/rand"
	"strings"
	"testing"

	"colander/api"
)

type asked struct {
	s string
	n int64
	e api.Errno
}

func check(t *testing.T, name string, f func(string) (int64, api.Errno), l []asked) {
	t.Helper()
	for _, a := range l {
		if n, e := f(a.s); n != a.n || e != a.e {
			t.Errorf("%s(%q): %d, %d; not %d, %d", name, a.s, n, e, a.n, a.e)
		}
	}
}

// N1: Decimal.
func TestDecimal(t *testing.T) {
	check(t, "Decimal", Decimal, []asked{
		{"0", 0, 0}, {"007", 7, 0}, {"42", 42, 0},
		{"9223372036854775807", math.MaxInt64, 0},
		{strings.Repeat("0", 99) + "9223372036854775807", math.MaxInt64, 0},
		{"9223372036854775808", 0, api.ErrOver}, {"18446744073709551617", 0, api.ErrOver},
		{strings.Repeat("9", 999), 0, api.ErrOver}, {"99999999999999999999999x", 0, api.ErrNumber},
		{"", 0, api.ErrNumber}, {"-1", 0, api.ErrNumber}, {"+1", 0, api.ErrNumber}, {" 1", 0, api.ErrNumber},
		{"1a", 0, api.ErrNumber}, {"a", 0, api.ErrNumber}, {"1_0", 0, api.ErrNumber}, {"1\x00", 0, api.ErrNumber}, {"/", 0, api.ErrNumber}, {":", 0, api.ErrNumber}, {"\xff", 0, api.ErrNumber},
	})
}

// N1: Hex.
func TestHex(t *testing.T) {
	check(t, "Hex", Hex, []asked{
		{"0", 0, 0}, {"1aF", 431, 0}, {"abcdef", 0xabcdef, 0}, {"ABCDEF", 0xabcdef, 0}, {"0009", 9, 0},
		{"7fffffffffffffff", math.MaxInt64, 0}, {"8000000000000000", 0, api.ErrOver}, {"10000000000000000", 0, api.ErrOver}, {strings.Repeat("f", 99), 0, api.ErrOver},
		{"0x1", 0, api.ErrNumber}, {"", 0, api.ErrNumber}, {":", 0, api.ErrNumber}, {"/", 0, api.ErrNumber}, {"g", 0, api.ErrNumber}, {"G", 0, api.ErrNumber}, {"@", 0, api.ErrNumber}, {"`", 0, api.ErrNumber}, {"1 ", 0, api.ErrNumber}, {"-1", 0, api.ErrNumber},
		{"ffffffffffffffffffg", 0, api.ErrNumber},
	})
}

// N2: Digits and Hexes.
func TestWrite(t *testing.T) {
	for _, a := range []struct {
		n    int64
		d, h string
	}{{0, "0", "0"}, {7, "7", "7"}, {431, "431", "1af"}, {math.MaxInt64, "9223372036854775807", "7fffffffffffffff"}, {-1, "", ""}, {math.MinInt64, "", ""}} {
		if d := Digits(a.n); d != a.d {
			t.Errorf("Digits(%d): %q", a.n, d)
		}
		if h := Hexes(a.n); h != a.h {
			t.Errorf("Hexes(%d): %q", a.n, h)
		}
	}
}

// What follows: what is written is read as that number.
func TestBack(t *testing.T) {
	rnd := rand.New(rand.NewSource(2))
	for i := 0; i < 5000; i++ {
		n := rnd.Int63() >> rnd.Intn(63)
		if m, e := Decimal(Digits(n)); m != n || e != api.OK {
			t.Fatalf("Decimal of Digits of %d: %d, %d", n, m, e)
		}
		if m, e := Hex(Hexes(n)); m != n || e != api.OK {
			t.Fatalf("Hex of Hexes of %d: %d, %d", n, m, e)
		}
	}
}
