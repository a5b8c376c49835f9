package leaf

import (
	"bytes"
	"math"
	"testing"

	"colander/api"
)

// table is the document's, row by row.
func table() []rune {
	return []rune{
		0x20AC, 0x81, 0x201A, 0x192, 0x201E, 0x2026, 0x2020, 0x2021, 0x2C6, 0x2030, 0x160, 0x2039, 0x152, 0x8D, 0x17D, 0x8F,
		0x90, 0x2018, 0x2019, 0x201C, 0x201D, 0x2022, 0x2013, 0x2014, 0x2DC, 0x2122, 0x161, 0x203A, 0x153, 0x9D, 0x17E, 0x178,
	}
}

// F1, F4: each byte's character, and back.
func TestChar(t *testing.T) {
	for i := 0; i < 256; i++ {
		want := rune(i)
		if i >= 0x80 && i < 0xA0 {
			want = table()[i-0x80]
		}
		if Char(byte(i)) != want {
			t.Errorf("Char(%x): %x", i, Char(byte(i)))
		}
		if c, ok := Byte(want); c != byte(i) || !ok {
			t.Errorf("Byte(%x): %x, %v", want, c, ok)
		}
	}
}

// F1: characters that have no byte.
func TestByteNone(t *testing.T) {
	for _, r := range []rune{0x80, 0x100, -1, 0x82, 0x9F, 0x9E, 0x8E, 0xFFFD, 0x10FFFF, math.MaxInt32, math.MinInt32, -0x80} {
		if c, ok := Byte(r); c != 0 || ok {
			t.Errorf("Byte(%x): %x, %v", r, c, ok)
		}
	}
	for _, r := range []rune{0x81, 0x8D, 0x8F, 0x90, 0x9D} {
		if c, ok := Byte(r); c != byte(r) || !ok {
			t.Errorf("Byte(%x): %x, %v", r, c, ok)
		}
	}
}

// F2, F4: Decode and Encode.
func TestDecode(t *testing.T) {
	if s := Decode([]byte{0x41, 0x93}); s != "A\u201c" {
		t.Errorf("Decode: %q", s)
	}
	if Decode(nil) != "" {
		t.Errorf("Decode of nothing")
	}
	all := make([]byte, 256)
	for i := range all {
		all[i] = byte(i)
	}
	if b, ok := Encode(Decode(all)); !ok || !bytes.Equal(b, all) {
		t.Errorf("Encode of Decode: % x, %v", b, ok)
	}
	for _, s := range []string{"a\u0100", "\xff", "a\xc3", "\u0080", "\ufffd", "\xe9"} {
		if b, ok := Encode(s); len(b) != 0 || ok {
			t.Errorf("Encode(%q): % x, %v", s, b, ok)
		}
	}
	if b, ok := Encode(""); len(b) != 0 || !ok {
		t.Errorf("Encode of nothing: % x, %v", b, ok)
	}
	if b, ok := Encode("é€\u0081"); !ok || string(b) != "\xe9\x80\x81" {
		t.Errorf("Encode: % x, %v", b, ok)
	}
}

// F3: Label.
func TestLabel(t *testing.T) {
	for c, l := range map[int][]string{
		api.CharUTF8:  {"utf-8", "utf8", "unicode-1-1-utf-8", "unicode11utf8", "unicode20utf8", "x-unicode20utf8", "UTF-8", "\t\n\f\r uTf8 \t\n\f\r"},
		api.Char1252:  {"windows-1252", "cp1252", "x-cp1252", "iso-8859-1", "iso8859-1", "iso88591", "iso_8859-1", "latin1", "l1", "ascii", "us-ascii", " Latin1"},
		api.CharUTF16: {"utf-16", "utf-16le", "utf-16be", "unicode", "ucs-2", "Unicode"},
		api.CharNone:  {"", " ", "utf 8", "utf-8;", "\vutf-8", "\u00a0utf-8", "\x00utf-8", "utf-7", "latin2", "latin-1", "\u212atf8", "utf\u20118", "\"utf-8\""},
	} {
		for _, s := range l {
			if Label(s) != c {
				t.Errorf("Label(%q): %d", s, Label(s))
			}
		}
	}
}

// F3, F4: Name.
func TestName(t *testing.T) {
	for c, want := range map[int]string{api.CharUTF8: "UTF-8", api.Char1252: "windows-1252", api.CharUTF16: "UTF-16", api.CharNone: "", -1: "", 4: "", math.MaxInt: ""} {
		if Name(c) != want {
			t.Errorf("Name(%d): %q", c, Name(c))
		}
		if want != "" && Label(Name(c)) != c {
			t.Errorf("Label of Name(%d)", c)
		}
	}
}
