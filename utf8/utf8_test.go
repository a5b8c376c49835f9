package utf8

import (
	"math"
	"math/rand"
	"reflect"
	"strings"
	"testing"
	lib "unicode/utf8"
)

const f = "\xEF\xBF\xBD"

// U1: Decode, with the faults cut as the document says.
func TestDecode(t *testing.T) {
	for s, want := range map[string]string{
		"": "", "A\xE2\x82\xAC": "A\u20ac", "\xE2\x82A": f + "A", "\xF0\x80A": f + f + "A", "\xED\xA0\x80": f + f + f,
		"\xF4\x8F\xBF\xBF": "\U0010ffff", "\xF4\x90\x80\x80": f + f + f + f, "\xC0\x80": f + f, "\xC1\xBF": f + f, "\xE0\x9F\xBF": f + f + f, "\xE0\xA0": f, "\xF0\x8F\xBF\xBF": f + f + f + f,
		"\xF0\x90\x80": f, "\xF0\x90\x80\xF0\x90\x80\x80": f + "\U00010000", "\xF1\x80\x80": f, "\xF5\x80": f + f, "\xFF\xFE": f + f, "\x80\xBF": f + f, "\xC3": f, "\xC3\xC3\xA9": f + "é", "\xE2\x82\xE2\x82": f + f, "\xED\x9F\xBF\xEE\x80\x80": "\ud7ff\ue000", "\x00\x7f": "\x00\x7f", "\xC2\x80\xDF\xBF": "\u0080\u07ff", "\xEF\xBF\xBD": f, "\xC3\xC0": f + f, "\xE0\xC0": f + f, "\xE1\xC0": f + f, "\xED\xA0": f + f, "\xF0\xC0": f + f, "\xF1\xC0": f + f, "\xF4\x90": f + f, "\xE1\x80\xC0": f + f, "\xF1\x80\x80\xC0": f + f,
	} {
		if d := Decode([]byte(s)); d != want {
			t.Errorf("Decode(% x): % x; not % x", s, d, want)
		}
	}
}

// U1: Runes.
func TestRunes(t *testing.T) {
	for s, want := range map[string][]rune{"\xF4\x8F\xBF\xBF": {0x10FFFF}, "\xC0\x80": {0xFFFD, 0xFFFD}, "": nil, "aé\xE2\x82": {'a', 0xE9, 0xFFFD}} {
		if l := Runes([]byte(s)); !reflect.DeepEqual(l, want) && len(l)+len(want) > 0 {
			t.Errorf("Runes(% x): %x", s, l)
		}
	}
}

// U1: Encode; what is no character counts as FFFD.
func TestEncode(t *testing.T) {
	if s := Encode([]rune{0x20AC, 0xD800, -1, 0x110000}); s != "\u20ac"+f+f+f {
		t.Errorf("Encode: % x", s)
	}
	for _, r := range []rune{0xDFFF, 0xDBFF, math.MinInt32, math.MaxInt32, 0xFFFD} {
		if s := Encode([]rune{r}); s != f {
			t.Errorf("Encode of %x: % x", r, s)
		}
	}
	if Encode(nil) != "" {
		t.Errorf("Encode of nothing")
	}
}

// U1, U3: all characters, each by itself.
func TestCharacters(t *testing.T) {
	for r := rune(0); r <= 0x10FFFF; r++ {
		if r >= 0xD800 && r <= 0xDFFF {
			continue
		}
		b := []byte(string(r))
		if Encode([]rune{r}) != string(b) || Fault(b) != len(b) {
			t.Fatalf("character %x", r)
		}
		if l := Runes(b); len(l) != 1 || l[0] != r {
			t.Fatalf("character %x: %x", r, l)
		}
	}
}

// U1: Fault.
func TestFault(t *testing.T) {
	for s, want := range map[string]int{"A\xE2\x82": 1, "A": 1, "": 0, "é\xE2\x82\xAC\x80": 5, "\xFF": 0, "\xEF\xBF\xBD": 3, "ab\xC3": 2} {
		if n := Fault([]byte(s)); n != want {
			t.Errorf("Fault(% x): %d", s, n)
		}
	}
}

// U2: the example.
func TestDecoder(t *testing.T) {
	d := New()
	if s := d.Feed([]byte{0xE2}); s != "" || d.Held() != 1 {
		t.Errorf("Feed(E2): %q, %d", s, d.Held())
	}
	if s := d.Feed([]byte{0x82, 'A'}); s != f+"A" || d.Held() != 0 {
		t.Errorf("Feed(82 41): %q, %d", s, d.Held())
	}
	if s := d.Feed([]byte{0xF0, 0x9F}); s != "" || d.Held() != 2 {
		t.Errorf("Feed(F0 9F): %q, %d", s, d.Held())
	}
	if s := d.Close(); s != f || d.Held() != 0 {
		t.Errorf("Close: %q", s)
	}
	if s := d.Close(); s != "" {
		t.Errorf("Close again: %q", s)
	}
	if s := d.Feed([]byte("\x9F")); s != f || d.Held() != 0 {
		t.Errorf("behind Close: %q", s)
	}
}

// U2: what is held, of bytes that end in every way.
func TestHeld(t *testing.T) {
	for s, want := range map[string]int{"": 0, "a": 0, "\xC2": 1, "\xC1": 0, "\xE0": 1, "\xE0\x9F": 0, "\xE0\xA0": 2, "\xED\xA0": 0, "\xED\x9F": 2, "\xF0\x90\x80": 3, "\xF0\x8F": 0, "\xF4\x8F\xBF": 3, "\xF4\x90": 0, "\xF5": 0, "\x80": 0, "\xE2\x82\xAC": 0, "\xE2\x82\xAC\xE2\x82": 2, "\xF1\xE2\x82": 2, "\xF1\x80\xC3": 1} {
		d := New()
		told := d.Feed([]byte(s))
		if d.Held() != want || told != Decode([]byte(s)[:len(s)-want]) {
			t.Errorf("Feed(% x): % x, held %d", s, told, d.Held())
		}
	}
}

// naive cuts pieces by trying: the longest row that begins a character's bytes.
func naive(b []byte) string {
	var s strings.Builder
	for len(b) > 0 {
		if r, n := lib.DecodeRune(b); r != lib.RuneError || n == 3 {
			s.WriteRune(r)
			b = b[n:]
			continue
		}
		n := 1
		for k := 2; k <= 3 && k <= len(b); k++ {
			if beginsOne(b[:k]) {
				n = k
			}
		}
		s.WriteString(f)
		b = b[n:]
	}
	return s.String()
}

// beginsOne tells whether some bytes behind these make a character.
func beginsOne(b []byte) bool {
	for _, c := range []byte{0x80, 0xBF} {
		all := append([]byte(nil), b...)
		for len(all) < 4 {
			all = append(all, c)
			if r, n := lib.DecodeRune(all); n == len(all) && (r != lib.RuneError || n == 3) {
				return true
			}
		}
	}
	return false
}

// U3: in whatever pieces, and against a reader that tries.
func TestPieces(t *testing.T) {
	rnd := rand.New(rand.NewSource(8))
	some := []byte{'a', 0x7F, 0x80, 0x8F, 0x90, 0x9F, 0xA0, 0xBF, 0xC0, 0xC1, 0xC2, 0xDF, 0xE0, 0xE2, 0xED, 0xEF, 0xF0, 0xF1, 0xF4, 0xF5, 0xFF, 0xBD}
	for i := 0; i < 50000; i++ {
		b := make([]byte, rnd.Intn(9))
		for j := range b {
			b[j] = some[rnd.Intn(len(some))]
		}
		before := string(b)
		all := Decode(b)
		if want := naive(b); all != want {
			t.Fatalf("Decode(% x): % x; not % x", b, all, want)
		}
		if Decode([]byte(all)) != all || (all == before) != (Fault(b) == len(b)) || lib.Valid(b) != (Fault(b) == len(b)) || !lib.ValidString(all) {
			t.Fatalf("Decode(% x) again, Fault", b)
		}
		d, told := New(), ""
		for rest := b; len(rest) > 0; {
			n := 1 + rnd.Intn(len(rest))
			told += d.Feed(rest[:n:n])
			rest = rest[n:]
		}
		if told += d.Close(); told != all || string(b) != before {
			t.Fatalf("% x fed: % x; not % x", b, told, all)
		}
	}
}
