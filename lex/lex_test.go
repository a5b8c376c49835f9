package lex

import (
	"math/rand"
	"reflect"
	"strings"
	"testing"

	"colander/api"
)

// L1: which bytes a token has, each byte by itself.
func TestToken(t *testing.T) {
	const may = "!#$%&'*+-.^_`|~0123456789abcdefghijklmnopqrstuvwxyzABCDEFGHIJKLMNOPQRSTUVWXYZ"
	for c := 0; c < 256; c++ {
		s := string([]byte{byte(c)})
		want := strings.Contains(may, s)
		if Token(s) != want || Token("a"+s+"b") != want {
			t.Errorf("Token of byte %d: not %v", c, want)
		}
	}
	if Token("") || !Token("Ab-1") {
		t.Errorf("Token of nothing, of Ab-1")
	}
}

// L1: Lower changes the letters A to Z alone.
func TestLower(t *testing.T) {
	for c := 0; c < 256; c++ {
		want := byte(c)
		if c >= 'A' && c <= 'Z' {
			want += 32
		}
		if s := Lower(string([]byte{'Q', byte(c)})); s != string([]byte{'q', want}) {
			t.Errorf("Lower of byte %d: %q", c, s)
		}
	}
	if Lower("") != "" || Lower("\u212aÄ") != "\u212aÄ" {
		t.Errorf("Lower of other characters")
	}
}

// L1: Same.
func TestSame(t *testing.T) {
	for _, a := range []struct {
		a, b string
		same bool
	}{{"", "", true}, {"aB", "Ab", true}, {"a", "ab", false}, {"[", "{", false}, {"@", "`", false}, {"\u212a", "k", false}, {"x\x00", "X\x00", true}} {
		if Same(a.a, a.b) != a.same {
			t.Errorf("Same(%q, %q)", a.a, a.b)
		}
	}
}

// L1: Trim leaves out SP and HT alone.
func TestTrim(t *testing.T) {
	for s, want := range map[string]string{"": "", " \t ": "", " a b\t": "a b", "\na\r": "\na\r", "\u00a0a": "\u00a0a", "\x0ba ": "\x0ba"} {
		if Trim(s) != want {
			t.Errorf("Trim(%q): %q", s, Trim(s))
		}
	}
}

// L2: Quote.
func TestQuote(t *testing.T) {
	for s, want := range map[string]string{"": `""`, "a": `"a"`, `a"b\`: `"a\"b\\"`, "a\tb": "\"a\tb\"", "\xff": "\"\xff\"", "a\nb": "", "\x7f": "", "\x00": "", "\x1f": ""} {
		if Quote(s) != want {
			t.Errorf("Quote(%q): %q", s, Quote(s))
		}
	}
}

// L2: Unquote.
func TestUnquote(t *testing.T) {
	for _, a := range []struct {
		s, v string
		n    int
	}{{`"a\"b"c`, `a"b`, 6}, {`""`, "", 2}, {`"\a\\"`, `a\`, 6}, {"\"\\\t\"", "\t", 4}, {`"a""b"`, "a", 3}, {"\"\xc3\xa9\"", "é", 4}} {
		if v, n, e := Unquote(a.s); v != a.v || n != a.n || e != api.OK {
			t.Errorf("Unquote(%q): %q, %d, %d", a.s, v, n, e)
		}
	}
	for _, s := range []string{"", "a", ` ""`, `"`, `"a`, `"a\"`, `"\`, "\"a\nb\"", "\"\\\n\"", "\"\x7f\"", "\"\\\x7f\"", "\"\x00\""} {
		if v, n, e := Unquote(s); v != "" || n != 0 || e != api.ErrQuote {
			t.Errorf("Unquote(%q): %q, %d, %d", s, v, n, e)
		}
	}
}

// L3: List.
func TestList(t *testing.T) {
	for _, a := range []struct {
		s string
		l []string
	}{
		{`a, ,"b,c";d ,`, []string{"a", `"b,c";d`}}, {"", nil}, {" , ,\t", nil}, {"a", []string{"a"}}, {",a,,b,", []string{"a", "b"}},
		{`a b , c`, []string{"a b", "c"}}, {`"\"," , "x"`, []string{`"\","`, `"x"`}}, {`a"b"c"d,e"f`, []string{`a"b"c"d,e"f`}}, {"a\x01,b", []string{"a\x01", "b"}},
	} {
		if l, e := List(a.s); !reflect.DeepEqual(l, a.l) && len(l)+len(a.l) > 0 || e != api.OK {
			t.Errorf("List(%q): %q, %d", a.s, l, e)
		}
	}
	for _, s := range []string{`a"b`, `"`, `a,b,"c\"`, "a,\"\n\"", `x, "a"b"`} {
		if l, e := List(s); len(l) != 0 || e != api.ErrQuote {
			t.Errorf("List(%q): %q, %d", s, l, e)
		}
	}
}

// L4: Media and Text.
func TestMedia(t *testing.T) {
	for _, a := range []struct{ s, text string }{
		{` Text/HTML ;Charset="utf-8"; ;x=Y`, `text/html; charset=utf-8; x=Y`},
		{"text/html", "text/html"}, {"\ttext/html\t", "text/html"}, {"a/b;", "a/b"}, {"a/b;;; ;\t;", "a/b"}, {"a/b ; ", "a/b"},
		{`a/b;x=""`, `a/b; x=""`}, {`a/b;x="a b";X=c`, `a/b; x="a b"; x=c`}, {`a/b;x="\a\""`, `a/b; x="a\""`}, {"a/b;x=1;x=1", "a/b; x=1; x=1"}, {"!/~", "!/~"},
	} {
		m, e := Media(a.s)
		if e != api.OK || Text(m) != a.text {
			t.Errorf("Media(%q): %+v, %d; %q", a.s, m, e, Text(m))
		}
		again, e := Media(Text(m))
		if e != api.OK || !reflect.DeepEqual(again, m) {
			t.Errorf("Media of Text of %+v: %+v", m, again)
		}
	}
	for _, s := range []string{"", " ", "text", "text/", "/html", "text /html", "text/ html", "text/html charset=x", "text/html; charset = x", "text/html; charset= x", "text/html; charset=", "text/html; charset", "text/html; =x",
		"text/html; x=\"a", "text/html; x=\"a\"b", "text/html; x=a\"b\"", "text/html, text/plain", "text/html; x=y z", "te(xt/html", "text/html;\n", "text/html\n", "text/html/x", "a/b;x=\"\n\""} {
		if m, e := Media(s); e != api.ErrMedia || m.Type != "" || m.Subtype != "" || len(m.Params) != 0 {
			t.Errorf("Media(%q): %+v, %d", s, m, e)
		}
	}
}

// L4: Text tells nothing of what may not be.
func TestTextWrong(t *testing.T) {
	p := func(n, v string) []api.Param { return []api.Param{{Name: "a", Value: "b"}, {Name: n, Value: v}} }
	for _, m := range []api.Media{{}, {Type: "a"}, {Subtype: "a"}, {Type: "A", Subtype: "b"}, {Type: "a", Subtype: "B"}, {Type: "a b", Subtype: "c"}, {Type: "a", Subtype: "b", Params: p("", "x")}, {Type: "a", Subtype: "b", Params: p("X", "x")}, {Type: "a", Subtype: "b", Params: p("x", "\n")}, {Type: "a", Subtype: "b", Params: p("x", "\x7f")}} {
		if s := Text(m); s != "" {
			t.Errorf("Text(%+v): %q", m, s)
		}
	}
	if s := Text(api.Media{Type: "a", Subtype: "b", Params: p("x", "")}); s != `a/b; a=b; x=""` {
		t.Errorf("Text: %q", s)
	}
}

// What follows: quoting and unquoting, joining and listing.
func TestBack(t *testing.T) {
	rnd := rand.New(rand.NewSource(3))
	const some = "a\"\\, \tb=;é\x80"
	for i := 0; i < 20000; i++ {
		b := make([]byte, rnd.Intn(9))
		for j := range b {
			b[j] = some[rnd.Intn(len(some))]
		}
		s := string(b)
		q := Quote(s)
		if v, n, e := Unquote(q + "x"); v != s || n != len(q) || e != api.OK {
			t.Fatalf("Unquote of Quote of %q: %q, %d, %d", s, v, n, e)
		}
		l, e := List(s)
		if e != api.OK {
			continue
		}
		again, e := List(strings.Join(l, ","))
		if e != api.OK || strings.Join(again, "\x00") != strings.Join(l, "\x00") {
			t.Fatalf("List of %q joined: %q, %d", l, again, e)
		}
	}
}
