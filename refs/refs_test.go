package refs

import (
	"math"
	"math/rand"
	"strings"
	"testing"
)

// loosely and strictly are the document's two rows.
func loosely() map[string]string {
	return map[string]string{"amp": "&", "AMP": "&", "lt": "<", "LT": "<", "gt": ">", "quot": "\"", "nbsp": "\u00a0", "copy": "\u00a9", "reg": "\u00ae", "not": "\u00ac", "para": "\u00b6", "times": "\u00d7", "divide": "\u00f7", "eacute": "\u00e9", "ETH": "\u00d0", "szlig": "\u00df"}
}

func strictly() map[string]string {
	return map[string]string{"apos": "'", "notin": "\u2209", "copysr": "\u2117", "parallel": "\u2225", "timesb": "\u22a0", "ltimes": "\u22c9", "gtdot": "\u22d7", "hellip": "\u2026", "ndash": "\u2013", "mdash": "\u2014", "lsquo": "\u2018", "rsquo": "\u2019", "ldquo": "\u201c", "rdquo": "\u201d", "euro": "\u20ac", "trade": "\u2122", "larr": "\u2190", "rarr": "\u2192", "Tab": "\t", "NewLine": "\n", "colon": ":", "sol": "/", "quest": "?", "lpar": "(", "zwj": "\u200d", "NotEqualTilde": "\u2242\u0338", "ThickSpace": "\u205f\u200a", "nvlt": "<\u20d2"}
}

// E1: each name.
func TestNames(t *testing.T) {
	for name, c := range loosely() {
		for _, s := range []string{name + ";", name + ";x"} {
			if got, n := Find(s); got != c || n != len(name)+1 {
				t.Errorf("Find(%q): %q, %d", s, got, n)
			}
		}
		for _, s := range []string{name, name + "1", name + "=", name + " ;"} {
			if got, n := Find(s); got != c || n != len(name) {
				t.Errorf("Find(%q): %q, %d", s, got, n)
			}
		}
	}
	for name, c := range strictly() {
		if got, n := Find(name + ";;"); got != c || n != len(name)+1 {
			t.Errorf("Find(%q): %q, %d", name+";", got, n)
		}
		want, k := loosest(name)
		if got, n := Find(name + " ;"); got != want || n != k {
			t.Errorf("Find(%q): %q, %d", name, got, n)
		}
	}
	if n := len(strings.Fields(names)); n != len(loosely())+len(strictly()) {
		t.Errorf("%d names", n)
	}
}

// loosest is the longest name of the first row that s begins with.
func loosest(s string) (string, int) {
	for n := len(s); n > 0; n-- {
		if c, ok := loosely()[s[:n]]; ok {
			return c, n
		}
	}
	return "", 0
}

// E1: the longest one, and none.
func TestFind(t *testing.T) {
	for _, a := range []struct {
		s, c string
		n    int
	}{{"notin;x", "\u2209", 6}, {"notit", "\u00ac", 3}, {"amp", "&", 3}, {"apos", "", 0}, {"Tab;", "\t", 4}, {"", "", 0}, {";", "", 0}, {"Amp;", "", 0}, {"a", "", 0}, {"copysr;", "\u2117", 7}, {"copysr", "\u00a9", 4}, {"timesb;", "\u22a0", 7}, {"gtdot;", "\u22d7", 6}, {"gtdot", ">", 2}, {"ltimes;", "\u22c9", 7}, {"parallel;", "\u2225", 9}, {" amp;", "", 0}, {"eth;", "", 0}, {"nvlt;" + strings.Repeat("x", 99), "<\u20d2", 5}} {
		if c, n := Find(a.s); c != a.c || n != a.n {
			t.Errorf("Find(%q): %q, %d", a.s, c, n)
		}
	}
}

// E2: Number.
func TestNumber(t *testing.T) {
	for n, want := range map[int]string{0: "\ufffd", -1: "\ufffd", math.MinInt: "\ufffd", math.MaxInt: "\ufffd", 0x110000: "\ufffd", 0x10FFFF: "\U0010ffff", 0xD800: "\ufffd", 0xDFFF: "\ufffd", 0xD7FF: "\ud7ff", 0xE000: "\ue000", 0x80: "\u20ac", 0x81: "\u0081", 0x9F: "\u0178", 0x7F: "\x7f", 0xA0: "\u00a0", 1: "\x01", 65: "A", 13: "\r", 1<<32 + 65: "\ufffd"} {
		if s := Number(n); s != want {
			t.Errorf("Number(%x): %q", n, s)
		}
	}
}

// E3: Take.
func TestTake(t *testing.T) {
	const nines = "9999999999999999"
	for _, a := range []struct {
		s, c string
		n    int
	}{
		{"&#65;b", "A", 5}, {"&#x80z", "\u20ac", 5}, {"&#;", "", 0}, {"&#x110000;", "\ufffd", 10}, {"&#0", "\ufffd", 3}, {"", "", 0}, {"a&#65;", "", 0}, {"&", "", 0}, {"&#", "", 0}, {"&#x", "", 0}, {"&#x;", "", 0}, {"&#xg", "", 0}, {"&#a", "", 0}, {"&;", "", 0}, {"& amp;", "", 0},
		{"&#X41;;", "A", 6}, {"&#x4a1", "\u04a1", 6}, {"&#65a", "A", 4}, {"&#x41g", "A", 5}, {"&#0000000000000065;", "A", 19}, {"&#00000000000000065;", "\x06", 18}, {"&#" + nines + ";x", "\ufffd", 19}, {"&#" + nines + "9;", "\ufffd", 18}, {"&#xffffffffffffffff;", "\ufffd", 20}, {"&#x0000000000000041F;", "A", 19}, {"&#1114111;", "\U0010ffff", 10}, {"&#xD800;", "\ufffd", 8}, {"&#65 ;", "A", 4},
		{"&#xA;", "\n", 5}, {"&#xa", "\n", 4}, {"&#xF;", "\x0f", 5}, {"&#xf", "\x0f", 4}, {"&#6:", "\x06", 3}, {"&#6/", "\x06", 3}, {"&#x6@", "\x06", 4}, {"&#x6`", "\x06", 4}, {"&#x6G", "\x06", 4}, {"&#x6:", "\x06", 4},
		{"&notin;x", "\u2209", 7}, {"&NotEqualTilde;", "\u2242\u0338", 15},
	} {
		for _, attr := range []bool{false, true} {
			if c, n := Take(a.s, attr); c != a.c || n != a.n {
				t.Errorf("Take(%q, %v): %q, %d", a.s, attr, c, n)
			}
		}
	}
	for _, a := range []struct {
		s, c string
		n    int
	}{{"&copy=", "\u00a9", 5}, {"&copyx", "\u00a9", 5}, {"&copyZ", "\u00a9", 5}, {"&copy1", "\u00a9", 5}, {"&copy0", "\u00a9", 5}, {"&copy9", "\u00a9", 5}, {"&copya", "\u00a9", 5}, {"&copyz", "\u00a9", 5}, {"&copyA", "\u00a9", 5}, {"&notit", "\u00ac", 4}} {
		if c, n := Take(a.s, false); c != a.c || n != a.n {
			t.Errorf("Take(%q, false): %q, %d", a.s, c, n)
		}
		if c, n := Take(a.s, true); c != "" || n != 0 {
			t.Errorf("Take(%q, true): %q, %d", a.s, c, n)
		}
	}
	for s, want := range map[string]int{"&copy;=": 6, "&copy;x": 6, "&copy ": 5, "&copy": 5, "&copy-": 5, "&copy/": 5, "&copy:": 5, "&copy@": 5, "&copy[": 5, "&copy`": 5, "&copy{": 5, "&copy\xc3\xa9": 5, "&copy&": 5, "&copy\"": 5} {
		if c, n := Take(s, true); c != "\u00a9" || n != want {
			t.Errorf("Take(%q, true): %q, %d", s, c, n)
		}
	}
}

// E4: More.
func TestMore(t *testing.T) {
	for s, want := range map[string]bool{
		"&no": true, "&amp;": false, "&ampx": false, "&#1": true, "&#x": true, "a": false, "": false, "&": true, "&#": true, "&#X": true, "&#xf": true, "&#xg": false, "&#f": false, "&#1;": false, "&#1a": false, "&not": true, "&notin": true, "&notin;": false, "&notit": false, "&apos": true, "&apos;": false, "&NotEqualTilde": true, "&ThickSpac": true, "&q": true, "&x": false, "&a b": false, "&amp AMP": false, "& ": false, "& amp": false, "&;": false, "&&": false, "&#&": false, "x&": false, "&Am": false, "&AM": true,
		"&#1234567890123456": true, "&#12345678901234567": false, "&#x1234567890abcdef": true, "&#x1234567890abcdef0": false,
	} {
		if More(s) != want {
			t.Errorf("More(%q): %v", s, !want)
		}
	}
}

// E5: All and Escape.
func TestAll(t *testing.T) {
	for s, want := range map[string]string{"": "", "abc": "abc", "a&amp;&lt b&x": "a&< b&x", "&&amp;&": "&&&", "&amp;amp;": "&amp;", "&#38;#38;": "&#38;", "&#x26;lt;": "&lt;", "&copyx": "\u00a9x", "\xff&lt;\x00": "\xff<\x00"} {
		if All(s, false) != want {
			t.Errorf("All(%q): %q", s, All(s, false))
		}
	}
	if s := All("?a=1&copy=2&lt;&ltx&gt", true); s != "?a=1&copy=2<&ltx>" {
		t.Errorf("All with attr: %q", s)
	}
	if s := Escape(`<a b="&">`, true); s != "&lt;a b=&quot;&amp;&quot;&gt;" {
		t.Errorf("Escape: %q", s)
	}
	if s := Escape("\"'\u00a0\xa0\xc2é<>&", false); s != "\"'&nbsp;\xa0\xc2é&lt;&gt;&amp;" {
		t.Errorf("Escape: %q", s)
	}
}

func text(rnd *rand.Rand) string {
	parts := []string{"&", "&", "#", "x", "X", "1", "f", ";", "amp", "not", "notin", "copy", "copysr", "=", "a", "lt", "Thick", "Space", "\"", "<", ">", "\u00a0", "0000000000000000", " ", "apos"}
	var s strings.Builder
	for n := rnd.Intn(8); n > 0; n-- {
		s.WriteString(parts[rnd.Intn(len(parts))])
	}
	return s.String()
}

// E6: what follows.
func TestFollows(t *testing.T) {
	rnd := rand.New(rand.NewSource(12))
	for i := 0; i < 100000; i++ {
		s, behind := text(rnd), text(rnd)
		for _, a := range []bool{false, true} {
			for _, b := range []bool{false, true} {
				if All(Escape(s, a), b) != s {
					t.Fatalf("All of Escape of %q: %q", s, All(Escape(s, a), b))
				}
			}
			if s == "" || More(s) {
				continue
			}
			c, n := Take(s, a)
			if d, k := Take(s+behind, a); c != d || n != k {
				t.Fatalf("Take(%q, %v): %q, %d; with %q behind: %q, %d", s, a, c, n, behind, d, k)
			}
		}
		if !strings.Contains(s, "&") && All(s, true) != s {
			t.Fatalf("All(%q)", s)
		}
	}
}
