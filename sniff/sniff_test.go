package sniff

import (
	"math/rand"
	"strings"
	"testing"
	"unicode/utf8"

	"colander/api"
)

const (
	none  = api.CharNone
	u8    = api.CharUTF8
	latin = api.Char1252
	u16   = api.CharUTF16
)

// N1: Bom.
func TestBom(t *testing.T) {
	for s, want := range map[string][2]int{"\xEF\xBB\xBFA": {u8, 3}, "\xEF\xBB\xBF": {u8, 3}, "\xEF\xBB": {none, 0}, "": {none, 0}, "\xFE\xFF": {u16, 2}, "\xFF\xFEx": {u16, 2}, "\xFE": {none, 0}, "\xFF\xFF": {none, 0}, "a\xFF\xFE": {none, 0}, " \xEF\xBB\xBF": {none, 0}} {
		if c, n := Bom([]byte(s)); c != want[0] || n != want[1] {
			t.Errorf("Bom(% x): %d, %d", s, c, n)
		}
	}
}

// N2: Content.
func TestContent(t *testing.T) {
	for s, want := range map[string]int{
		`a; charset = "utf-8"`: u8, "charset;charset=latin1 x": latin, "charset='utf-8": none, "utf-8": none, "": none, "charset": none, "charset=": none, "charset =": none,
		"text/html; charset=utf-8": u8, "TEXT/HTML; CHARSET=UTF-8": u8, "charset=utf-8;x": u8, "charset=\t\n\f\r utf-8\tx": u8, "charset=utf-16": u16, "charset=\"utf-8": none, "charset=\" utf-8 \"x": u8, "charset='latin1'": latin, "charset='latin1\"": none,
		"charset=x; charset=utf-8": none, "charset charset=utf-8": u8, "charset x charset=utf-8": u8, "xcharset=utf-8": u8, "charsetcharset=utf-8": u8, "charset=utf-8\x0b": none, "charset==utf-8": none, "charset=,utf-8": none, "charset=utf-8,x": none, "charset=\"\"utf-8": none, "charset= ;utf-8": none,
	} {
		if c := Content(s); c != want {
			t.Errorf("Content(%q): %d; not %d", s, c, want)
		}
	}
}

// N3: Prescan, line by line.
func TestPrescan(t *testing.T) {
	pad := strings.Repeat(" ", 1024)
	for s, want := range map[string]int{
		"": none, "a": none, "<": none, "<meta": none, "<meta ": none, "<meta charset=utf-8": none, "<meta charset=utf-8 ": none, "<meta charset='utf-8": none, "<meta charset='utf-8'": none, "<meta charset": none, "<meta charset=": none, "<meta charset=utf-8>": u8,
		"<!-- <meta charset=utf-8> --><meta charset=latin1>": latin, "<META charset='UTF-16'>": u8, `<meta content="charset=utf-8">`: none, `<meta http-equiv=Content-Type content="charset=utf-8">`: u8,
		"<!--><meta charset=utf-8>": u8, "<!---><meta charset=utf-8>": u8, `<p title="<meta charset=utf-8>">`: none, "<!--> --><meta charset=utf-8>": u8, "<!-- ><meta charset=utf-8>": none, "<!-- ->--><meta charset=utf-8>": u8, "<!--- ><meta charset=latin1>-->": none, "<!--x--!><meta charset=utf-8>": none,
		// what meta is, and what not
		"<meta\tcharset=utf-8>": u8, "<meta\x0ccharset=utf-8>": u8, "<meta\rcharset=utf-8>": u8, "<meta/charset=utf-8>": u8, "<meta\x0bcharset=utf-8>": none, "<metax charset=utf-8>": none, "<meta>charset=utf-8>": none, "x<meta charset=utf-8>": u8, "< meta charset=utf-8>": none, "</meta charset=utf-8>": none, "<<meta charset=utf-8>": u8,
		// names, and those that stood there
		"<meta charset=x charset=utf-8>": none, "<meta charset=x><meta charset=utf-8>": u8, "<meta CHARSET=Latin1 charset=utf-8>": latin, "<meta charset=utf-8 content='charset=latin1'>": u8, "<meta content='charset=latin1' charset=utf-8>": u8, "<meta content='charset=latin1' charset=x http-equiv=content-type>": none, "<meta charset=x content='charset=latin1' http-equiv=content-type>": none,
		"<meta http-equiv=content-type http-equiv=x content='charset=utf-8'>": u8, "<meta http-equiv=x http-equiv=content-type content='charset=utf-8'>": none, "<meta content='charset=utf-16' http-equiv='CONTENT-TYPE'>": u8, "<meta http-equiv=' content-type' content='charset=utf-8'>": none, "<meta content=x content='charset=utf-8' http-equiv=content-type>": none, "<meta http-equiv=content-type content=utf-8>": none,
		"<meta content='charset=x' http-equiv=content-type charset=latin1>": latin, "<meta content='charset=utf-8'><meta http-equiv=content-type>": none,
		// how attributes are read
		"<meta charset = utf-8>": u8, "<meta charset\n=\n'utf-8'>": u8, "<meta =charset=utf-8>": none, "<meta = charset=utf-8>": u8, "<meta a/charset=utf-8>": u8, "<meta a=/charset=utf-8>": none, "<meta a=/ charset=utf-8>": u8, "<meta charset/=utf-8>": none, "<meta charset=utf-8/>": none, "<meta charset=utf-8 />": u8, "<meta charset='utf-8'/>": u8, "<meta charset='utf-8'x>": u8, "<meta x='a>b'charset=utf-8>": u8, "<meta x=a'b charset=utf-8>": u8, "<meta x=>charset=utf-8>": none, "<meta x= charset=utf-8>": none, "<meta x charset=utf-8>": u8, "<meta 'charset=utf-8>": none, "<meta charset=\"utf-8'>": none, "<meta /// charset=utf-8>": u8,
		// other tags
		"<p a='>'><meta charset=utf-8>": u8, "<p a=\"><meta charset=utf-8>": none, "</p a='<meta charset=latin1>'><meta charset=utf-8>": u8, "<p/a='<meta charset=utf-8>'>": none, "<p>'<meta charset=utf-8>": u8, "<p<meta charset=utf-8>": none, "<é><meta charset=utf-8>": u8,
		"<!x<meta charset=latin1><meta charset=utf-8>": u8, "</ <meta charset=latin1><meta charset=utf-8>": u8, "<?<meta charset=latin1><meta charset=utf-8>": u8, "<!><meta charset=utf-8>": u8, "</><meta charset=utf-8>": u8, "<! ": none, "<!-x><meta charset=utf-8>": u8, "<script><meta charset=utf-8>": u8, "<1<meta charset=utf-8>": u8,
		"<a=\"><meta charset=utf-8>": u8, "<a=' x='>'><meta charset=utf-8>": u8, "</p a='><meta charset=utf-8>'><meta charset=latin1>": latin, "<a x='><meta charset=utf-8>'>": none, "<z x='><meta charset=utf-8>'>": none, "<A x='><meta charset=utf-8>'>": none, "</z x='><meta charset=utf-8>'>": none, "<@ x='><meta charset=utf-8>'>": u8, "<[ x='><meta charset=utf-8>'>": u8, "<{ x='><meta charset=utf-8>'>": u8,
		// N5: what stands behind the first bytes
		pad[:1004] + "<meta charset=utf-8>": u8, pad[:1005] + "<meta charset=utf-8>": none, pad + "<meta charset=utf-8>": none,
	} {
		if c := Prescan([]byte(s)); c != want {
			t.Errorf("Prescan(%q): %d; not %d", s, c, want)
		}
	}
}

// N4: Pick, and N5: what goes ahead of what.
func TestPick(t *testing.T) {
	const meta = "<meta charset=utf-8>"
	for _, a := range []struct {
		charset, b string
		c, n       int
	}{
		{"latin1", "\xEF\xBB\xBFA", u8, 3}, {"x", "A", latin, 0}, {"", "", latin, 0}, {"", meta, u8, 0}, {"x", meta, u8, 0}, {"latin1", meta, latin, 0}, {" UTF-8 ", "A", u8, 0}, {"utf-16", "A", u16, 0}, {"utf-8", "\xFF\xFE", u16, 2}, {"utf-16", "\xEF\xBB\xBF", u8, 3}, {"", "\xEF\xBB\xBF<meta charset=latin1>", u8, 3}, {"", "<meta charset=utf-16>", u8, 0},
	} {
		if c, n := Pick(a.charset, []byte(a.b)); c != a.c || n != a.n {
			t.Errorf("Pick(%q, %q): %d, %d", a.charset, a.b, c, n)
		}
	}
}

// N4: Decode.
func TestDecode(t *testing.T) {
	for _, a := range []struct {
		charset, b, s string
		e             api.Errno
	}{
		{"utf-16", "A", "", api.ErrCharset}, {"", "\xFE\xFFa", "", api.ErrCharset}, {"latin1", "\xE4\x80", "ä€", 0}, {"", "\xC3\xA4", "Ã¤", 0}, {"utf-8", "\xC3\xA4\xE4", "ä\uFFFD", 0}, {"latin1", "\xEF\xBB\xBF\xC3\xA4", "ä", 0}, {"", "", "", 0}, {"", "<meta charset=utf8>\xC3\xA4", "<meta charset=utf8>ä", 0},
	} {
		if s, e := Decode(a.charset, []byte(a.b)); s != a.s || e != a.e {
			t.Errorf("Decode(%q, %q): %q, %d", a.charset, a.b, s, e)
		}
	}
}

// N5, R1, R5: any bytes; what is told is without faults, and nothing is written into.
func TestAny(t *testing.T) {
	rnd := rand.New(rand.NewSource(11))
	parts := []string{"<meta", " ", "charset", "=", "utf-8", "'", "\"", ">", "/", "<", "!--", "--", "content", "http-equiv=content-type", "<!", "\xff", "a", "\xEF\xBB\xBF", "latin1"}
	for i := 0; i < 30000; i++ {
		var b []byte
		for n := rnd.Intn(14); n > 0; n-- {
			b = append(b, parts[rnd.Intn(len(parts))]...)
		}
		before := string(b)
		s, e := Decode("", b)
		if e != api.OK || !utf8.ValidString(s) || string(b) != before {
			t.Fatalf("Decode(%q): %q, %d", before, s, e)
		}
		Content(before)
	}
}
