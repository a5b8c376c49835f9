package marks

import (
	"fmt"
	"math/rand"
	"reflect"
	"strings"
	"testing"

	"colander/api"
	"colander/refs"
)

// show writes marks shortly: texts as [..], tags as they are read, # a comment, ! a doctype.
func show(l []api.Mark) string {
	var b strings.Builder
	for _, m := range l {
		switch m.Kind {
		case api.MarkText:
			b.WriteString("[" + m.Text + "]")
		case api.MarkStart, api.MarkEnd:
			b.WriteString("<")
			if m.Kind == api.MarkEnd {
				b.WriteString("/")
			}
			b.WriteString(m.Name)
			for _, a := range m.Attrs {
				b.WriteString(" " + a.Name + "=" + a.Value + ";")
			}
			if m.Self {
				b.WriteString("/")
			}
			b.WriteString(">")
		case api.MarkComment:
			b.WriteString("#")
		case api.MarkDoctype:
			b.WriteString("!")
		case api.MarkEOF:
			b.WriteString("$")
		default:
			b.WriteString(fmt.Sprint(m.Kind))
		}
	}
	return b.String()
}

func examples() map[string]string {
	return map[string]string{
		"": "", "a": "[a]",
		`a<B c=1 C=2 d='&lt'/>x</b e>`: `[a]<b c=1; d=<;/>[x]</b>`,
		`<a b=/>`:                      `<a b=/;>`, `<a/b>`: `<a b=;>`, `<a =x>`: `<a =x=;>`, `<a b = 'x'c>`: `<a b=x; c=;>`,
		`1<2</>3<!-->4<!--->5<!--x--!>6`:       `[1<23]#[4]#[5]#[6]`,
		`<title>a<b>&amp;</TITLE >c`:           `<title>[a<b>&]</title>[c]`,
		`<script><!--</script>-->`:             `<script>[<!--]</script>[-->]`,
		`a</`:                                  `[a</]`,
		`a</b`:                                 `[a]`,
		`<!`:                                   `#`,
		`</ x>y`:                               `#[y]`,
		`<!DOCTYPE html>`:                      `!`,
		"a\r\nb\rc":                            "[a\nb\nc]",
		"\r\r\n\n":                             "[\n\n\n]",
		"a\x00<\x00a b\x00=\x00>":              "[a\ufffd<\ufffda b\ufffd=\ufffd>]",
		"<a\x00 b\x00=\x00>":                   "<a\ufffd b\ufffd=\ufffd;>",
		`<`:                                    `[<]`,
		`<<a>`:                                 `[<]<a>`,
		`< a>`:                                 `[< a>]`,
		`<1>`:                                  `[<1>]`,
		`<é>`:                                  `[<é>]`,
		`</1>x`:                                `#[x]`,
		`</`:                                   `[</]`,
		`</>`:                                  ``,
		`<?x?>y`:                               `#[y]`,
		`<?`:                                   `#`,
		`<?x`:                                  `#`,
		`<!x>y`:                                `#[y]`,
		`<!>y`:                                 `#[y]`,
		`<!-x>y`:                               `#[y]`,
		`<!-`:                                  `#`,
		`<!-->y`:                               `#[y]`,
		`<!--->y`:                              `#[y]`,
		`<!---->y`:                             `#[y]`,
		`<!--`:                                 `#`,
		`<!---`:                                `#`,
		`<!----`:                               `#`,
		`<!--x`:                                `#`,
		`<!--x--`:                              `#`,
		`<!--x--!`:                             `#`,
		`<!--!>y-->z`:                          `#[z]`,
		`<!-- > -> --- -- > --x> ---->y`:       `#[y]`,
		`<!----!>y`:                            `#[y]`,
		`<!--x---!>y`:                          `#[y]`,
		`<!--a--><!--b-->`:                     `##`,
		`<!doctype>y`:                          `![y]`,
		`<!DocTypehtml`:                        `!`,
		`<!doctyp>`:                            `#`,
		`<!doctyp`:                             `#`,
		`<!doctype a=">">y`:                    `![">y]`,
		`<![CDATA[x]]>y`:                       `#[y]`,
		`<![CDATA[x>y]]>`:                      `#[y]]>]`,
		`<a`:                                   ``,
		`<a b`:                                 ``,
		`<a b=`:                                ``,
		`x<a b='>y`:                            `[x]`,
		`<a b=">"c>`:                           `<a b=>; c=;>`,
		`<a b='"'>`:                            `<a b=";>`,
		`<a b=x'y"z>`:                          `<a b=x'y"z;>`,
		`<a b=>x`:                              `<a b=;>[x]`,
		`<a b= >x`:                             `<a b=;>[x]`,
		"<a\tb\n=\fc\n>":                       "<a b=c;>",
		"<a\rb>":                               "<a b=;>",
		"<a\x0bb>":                             "<a\x0bb>",
		`<a //b//=c>`:                          `<a b=; =c=;>`,
		`<a ==b>`:                              `<a ==b;>`,
		`<a b==c>`:                             `<a b==c;>`,
		`<a "b'<c>`:                            `<a "b'<c=;>`,
		`<a b/>`:                               `<a b=;/>`,
		`<a/>`:                                 `<a/>`,
		`<a />`:                                `<a/>`,
		`<a / >`:                               `<a>`,
		`<a //>`:                               `<a/>`,
		`<a b='x'/>`:                           `<a b=x;/>`,
		`<a b=x/>`:                             `<a b=x/;>`,
		`<a b=x />`:                            `<a b=x;/>`,
		`<a b='/'>`:                            `<a b=/;>`,
		`</a/>`:                                `</a>`,
		`</A b=1 c='>'>x`:                      `</a>[x]`,
		`<A-é.Ä>`:                              `<a-é.Ä>`,
		`<a b=1 B=2 b=3>`:                      `<a b=1;>`,
		`<a b='&copy=&copy;&lt' c=&ampx;&amp>`: `<a b=&copy=©<; c=&ampx;&;>`,
		`&lt;a>&copyx&am</>p;`:                 `[<a>©x&amp;]`,
		`<textarea>&lt;<b></textarea>`:         `<textarea>[<<b>]</textarea>`,
		`<style>&lt;<b></style>`:               `<style>[&lt;<b>]</style>`,
		`<z><Z></z></Z><az09>`:                 `<z><z></z></z><az09>`,
		`<@><[><{></@><` + "`" + `>`:           "[<@><[><{>]#[<`>]",
		`<textarea>&lt;</textarea>`:            `<textarea>[<]</textarea>`,
		`<xmp>&lt;</x></xmp x='>'>`:            `<xmp>[&lt;</x>]</xmp>`,
		`<style>a</style/>b`:                   `<style>[a]</style>[b]`,
		`<script>a</scriptx></script`:          `<script>[a</scriptx></script]`,
		`<script>a</script `:                   `<script>[a]`,
		`<script></scrip</script>b`:            `<script>[</scrip]</script>[b]`,
		`<script/>a<b></script>`:               `<script/>[a<b>]</script>`,
		`<SCRIPT>a</ScRiPt><b>`:                `<script>[a]</script><b>`,
		`<iframe><b></iframe><noembed><b></noembed><noframes><b></noframes>`: `<iframe>[<b>]</iframe><noembed>[<b>]</noembed><noframes>[<b>]</noframes>`,
		`<title></title>a`:                    `<title></title>[a]`,
		`<title><`:                            `<title>[<]`,
		`<title>&amp`:                         `<title>[&]`,
		`</title>a<b>`:                        `</title>[a]<b>`,
		`<plaintext><noscript><b></noscript>`: `<plaintext><noscript><b></noscript>`,
		`<a b c d e f g h i B C D>`:           `<a b=; c=; d=; e=; f=; g=; h=; i=;>`,
		`</a b c d e f g h i j k>`:            `</a>`,
		"<a b='\r\n'>":                        "<a b=\n;>",
		"<title>\r</title>":                   "<title>[\n]</title>",
		"<a " + strings.Repeat("x", api.MaxMark-4) + ">":                       "<a " + strings.Repeat("x", api.MaxMark-4) + "=;>",
		"<a " + strings.Repeat("x", api.MaxMark-3):                             "",
		"<a " + strings.Repeat("\r\n", api.MaxMark-4) + ">":                    "<a>",
		"<!--" + strings.Repeat("x", 9999) + "-->" + strings.Repeat("y", 9999): "#[" + strings.Repeat("y", 9999) + "]",
	}
}

// K1, K3: what stands where.
func TestAll(t *testing.T) {
	for s, want := range examples() {
		l, e := All(s)
		if show(l) != want || e != api.OK {
			t.Errorf("All(%.60q): %.80q, %d; not %.80q", s, show(l), e, want)
		}
	}
}

func wrong() map[string]api.Errno {
	x := strings.Repeat("x", api.MaxMark)
	return map[string]api.Errno{
		"<a b c d e f g h i j>":                         api.ErrAttrs,
		"y<a b=1 c=1 d=1 e=1 f=1 g=1 h=1 i=1 b=1 j=1>z": api.ErrAttrs,
		"<" + x + ">":                                   api.ErrMark,
		"<" + x:                                         api.ErrMark,
		"<a " + x[:api.MaxMark-3] + ">":                 api.ErrMark,
		"</a " + x + ">":                                api.ErrMark,
		"<title>a</title " + x:                          api.ErrMark,
		"<a b='" + strings.Repeat(">", api.MaxMark) + "'>":   api.ErrMark,
		"<a b c d e f g h i j " + x + ">":                    api.ErrMark,
		"<a " + strings.Repeat("\x00", api.MaxMark/3) + ">":  api.ErrMark,
		"<a " + strings.Repeat("\r\n", api.MaxMark-3) + ">z": api.ErrMark,
	}
}

// K1, K3: errors, and that again and again.
func TestErrors(t *testing.T) {
	for s, want := range wrong() {
		if l, e := All(s); len(l) != 0 || e != want {
			t.Errorf("All(%.40q): %.40q, %d", s, show(l), e)
		}
		r := New(s)
		m, e := r.Next()
		for i := 0; i < 9 && e == api.OK; i++ {
			r.Mode(inner(m.Name), m.Name)
			m, e = r.Next()
		}
		for i := 0; i < 3; i++ {
			if e != want || !reflect.DeepEqual(m, api.Mark{}) {
				t.Errorf("Next of %.40q: %+v, %d", s, m, e)
			}
			m, e = r.Next()
		}
	}
	if l, e := All("<a b c d e f g h i j"); len(l) != 0 || e != api.OK {
		t.Errorf("a tag that is cut off: %q, %d", show(l), e)
	}
}

// K1: the reader's texts go on to the next place that is none.
func TestNext(t *testing.T) {
	for s, want := range map[string][]string{"1<2</>3&amp;<b>": {"[1<2]", "[3&]", "<b>", "$", "$", "$"}, "": {"$", "$"}, "a</b": {"[a]", "$"}, "<title>&lt;</title>": {"<title>", "[<]", "</title>", "$"}, "<!--a": {"#", "$"}} {
		r := New(s)
		for _, w := range want {
			if m, e := r.Next(); show([]api.Mark{m}) != w || e != api.OK {
				t.Errorf("Next of %q: %q, %d; not %q", s, show([]api.Mark{m}), e, w)
			}
		}
	}
}

// next tells all marks of a reader.
func next(r *Reader) string {
	var l []api.Mark
	for {
		m, e := r.Next()
		if m.Kind == api.MarkEOF || e != api.OK {
			return show(l)
		}
		l = append(l, m)
	}
}

// K1: Mode.
func TestMode(t *testing.T) {
	const s = "a&lt;<b></B >c<b>"
	for _, a := range []struct {
		mode       int
		name, want string
	}{
		{api.ModeRefs, "b", "[a<<b>]</b>[c]<b>"}, {api.ModeRaw, "b", "[a&lt;<b>]</b>[c]<b>"}, {api.ModeData, "b", "[a<]<b></b>[c]<b>"}, {api.ModeRaw, "c", "[a&lt;<b></B >c<b>]"}, {api.ModeRaw, "b1", "[a&lt;<b></B >c<b>]"},
		{api.ModeRaw, "az09", "[a&lt;<b></B >c<b>]"}, {api.ModeRaw, "z", "[a&lt;<b></B >c<b>]"}, {api.ModeRaw, "b:", "[a<]<b></b>[c]<b>"}, {api.ModeRaw, "b/", "[a<]<b></b>[c]<b>"}, {api.ModeRaw, "b{", "[a<]<b></b>[c]<b>"}, {api.ModeRaw, "b`", "[a<]<b></b>[c]<b>"},
		{api.ModeRaw, "", "[a<]<b></b>[c]<b>"}, {api.ModeRaw, "B", "[a<]<b></b>[c]<b>"}, {api.ModeRaw, "1b", "[a<]<b></b>[c]<b>"}, {api.ModeRaw, "b-", "[a<]<b></b>[c]<b>"}, {3, "b", "[a<]<b></b>[c]<b>"}, {-1, "b", "[a<]<b></b>[c]<b>"},
	} {
		r := New(s)
		r.Mode(a.mode, a.name)
		if got := next(r); got != a.want {
			t.Errorf("Mode(%d, %q): %q", a.mode, a.name, got)
		}
	}
	r := New(s)
	r.Mode(api.ModeRaw, "b")
	r.Mode(api.ModeRaw, "B")
	if got := next(r); got != "[a<]<b></b>[c]<b>" {
		t.Errorf("a mode that may not be: %q", got)
	}
}

// K1: Cdata.
func TestCdata(t *testing.T) {
	for s, want := range map[string]string{"<![CDATA[a&lt;<b>]]>c": "[a&lt;<b>][c]", "a<![CDATA[]]>b": "[a][b]", "<![CDATA[a]]": "[a]]]", "<![CDATA[": "", "<![CDATA[]]>": "", "<![cdata[a]]>": "#", "<![CDATA": "#", "<![CDATA[]]]]>": "[]]]", "<![CDATA[\r\n\x00]]><b>": "[\n\ufffd]<b>", "<![CDATA[a>b]]>": "[a>b]"} {
		r := New(s)
		r.Cdata(true)
		if got := next(r); got != want {
			t.Errorf("Cdata of %q: %q; not %q", s, got, want)
		}
	}
	r := New("<![CDATA[a]]><![CDATA[b]]>")
	r.Cdata(true)
	r.Next()
	r.Cdata(false)
	if got := next(r); got != "#" {
		t.Errorf("Cdata off: %q", got)
	}
}

// K2: Join.
func TestJoin(t *testing.T) {
	text := func(s, name string) api.Mark {
		return api.Mark{Kind: api.MarkText, Text: s, Name: name, Attrs: []api.Attr{{Name: name}}, Self: name == "x"}
	}
	tag := api.Mark{Kind: api.MarkStart, Name: "t", Text: "kept", Attrs: []api.Attr{{Name: "a", Value: "b"}}}
	l := []api.Mark{text("", "q"), text("a", "x"), text("", "q"), text("b", "y"), tag, text("", "q"), tag, text("c", "z"), {Kind: 99, Text: ""}, text("d", "w"), {Kind: api.MarkEOF}}
	joined := Join(l)
	want := []api.Mark{text("ab", "x"), tag, tag, text("c", "z"), {Kind: 99}, text("d", "w"), {Kind: api.MarkEOF}}
	if !reflect.DeepEqual(joined, want) {
		t.Errorf("Join: %+v", joined)
	}
	joined[0].Attrs[0].Name, joined[1].Attrs[0].Name = "changed", "changed"
	if l[1].Attrs[0].Name != "x" || l[4].Attrs[0].Name != "a" || joined[2].Attrs[0].Name != "a" {
		t.Errorf("Join shares memory")
	}
	if len(Join(nil)) != 0 || len(Join([]api.Mark{text("", "q")})) != 0 {
		t.Errorf("Join of nothing")
	}
}

// feed feeds a text in pieces, and checks what must hold at each of them.
func feed(t *testing.T, s *Stream, text string, piece func() int) ([]api.Mark, api.Errno) {
	t.Helper()
	var told []api.Mark
	var wrong api.Errno
	for rest := text; rest != ""; {
		n := min(piece(), len(rest))
		l, e := s.Feed(rest[:n])
		rest = rest[n:]
		if wrong != api.OK && e != wrong || e != api.OK && len(l) > 0 {
			t.Fatalf("Feed of %.60q: %d behind %d, %d marks", text, e, wrong, len(l))
		}
		if s.Held() > api.MaxMark || s.Held() < 0 {
			t.Fatalf("Held: %d", s.Held())
		}
		for _, m := range l {
			if m.Kind == api.MarkText && m.Text == "" || m.Kind == api.MarkEOF {
				t.Fatalf("Feed of %.60q: %+v", text, m)
			}
		}
		if _, sofar := All(text[:len(text)-len(rest)]); sofar != e {
			t.Fatalf("Feed of %.60q: %d, not %d", text, e, sofar)
		}
		wrong = e
		told = append(told, l...)
	}
	l, e := s.Close()
	if wrong != api.OK && e != wrong || e != api.OK && len(l) > 0 || s.Held() != 0 {
		t.Fatalf("Close of %.60q: %d behind %d", text, e, wrong)
	}
	if e != api.OK {
		return nil, e
	}
	return Join(append(told, l...)), e
}

// K4: a stream tells what All tells, again and again.
func TestStream(t *testing.T) {
	s := Open()
	check := func(text string, piece func() int) {
		want, wrong := All(text)
		l, e := feed(t, s, text, piece)
		if show(l) != show(want) || e != wrong {
			t.Fatalf("%.60q: %.80q, %d; not %.80q, %d", text, show(l), e, show(want), wrong)
		}
	}
	for _, n := range []int{1, 2, 3, 7, 1000, 99999} {
		for text := range examples() {
			if len(text) < 3000 || n > 99 {
				check(text, func() int { return n })
			}
		}
		for text := range wrong() {
			if len(text) < 3000 && n > 2 {
				check(text, func() int { return n })
			}
		}
	}
	if l, e := s.Close(); len(l) != 0 || e != api.OK {
		t.Errorf("Close of nothing: %d, %d", len(l), e)
	}
}

// K4: an error stays up to the Close, and not beyond.
func TestStreamError(t *testing.T) {
	s := Open()
	if l, e := s.Feed("a<b><c " + strings.Repeat("x", api.MaxMark)); len(l) != 0 || e != api.ErrMark {
		t.Errorf("Feed: %d, %d", len(l), e)
	}
	if l, e := s.Feed("<p>"); len(l) != 0 || e != api.ErrMark {
		t.Errorf("Feed again: %d, %d", len(l), e)
	}
	if l, e := s.Close(); len(l) != 0 || e != api.ErrMark || s.Held() != 0 {
		t.Errorf("Close: %d, %d", len(l), e)
	}
	if l, e := s.Feed("<p>"); show(l) != "<p>" || e != api.OK {
		t.Errorf("behind Close: %q, %d", show(l), e)
	}
	s.Feed("<title>a\r")
	s.Close()
	if l, e := s.Feed("\n<b>"); show(l) != "[\n]<b>" || e != api.OK {
		t.Errorf("behind Close: %q, %d", show(l), e)
	}
}

// K4: comments, texts and doctypes are passed, not held.
func TestHeld(t *testing.T) {
	for _, begin := range []string{"", "<!--", "<!x", "<?", "</ ", "<!doctype", "<title>", "<script>", "<script><!--"} {
		s := Open()
		s.Feed(begin)
		for i := 0; i < 9; i++ {
			s.Feed(strings.Repeat("x-", 3000))
			if s.Held() > 19 {
				t.Errorf("%q: %d are held", begin, s.Held())
			}
		}
	}
	s := Open()
	s.Feed("<a " + strings.Repeat("\r\n", 100))
	if s.Held() != 103 {
		t.Errorf("Held: %d", s.Held())
	}
}

// K5: any text, in any pieces; no two texts side by side, none empty.
func TestPieces(t *testing.T) {
	rnd := rand.New(rand.NewSource(13))
	parts := []string{"<", ">", "/", "</", "<!", "!", "-", "--", "-->", "--!>", "a", "b", " ", "\n", "\r", "\r\n", "\x00", "=", "'", "\"", "&", "&amp", "&lt;", "&no", "#", "x", ";", "1", "title", "<title>", "</title>", "script", "<script", "</script", "doctype", "<!doc", "type", "[CDATA[", "]]>", "é", "\xff", "?", "<textarea>", "</TextArea\n"}
	s := Open()
	for i := 0; i < 20000; i++ {
		var b strings.Builder
		for n := rnd.Intn(16); n > 0; n-- {
			b.WriteString(parts[rnd.Intn(len(parts))])
		}
		text := b.String()
		want, e := All(text)
		l, f := feed(t, s, text, func() int { return 1 + rnd.Intn(4) })
		if !reflect.DeepEqual(l, want) || e != f {
			t.Fatalf("%q: %q, %d; not %q, %d", text, show(l), f, show(want), e)
		}
		for j, m := range want {
			if m.Kind == api.MarkText && (m.Text == "" || j > 0 && want[j-1].Kind == api.MarkText) {
				t.Fatalf("%q: %q", text, show(want))
			}
		}
	}
}

// K5: what is written plainly is read as itself.
func TestPlain(t *testing.T) {
	rnd := rand.New(rand.NewSource(131))
	some := []rune("ab<>&\"'=/ \n\u00a0é;#x1-!")
	word := func() string {
		l := make([]rune, rnd.Intn(6))
		for i := range l {
			l[i] = some[rnd.Intn(len(some))]
		}
		return string(l)
	}
	for i := 0; i < 5000; i++ {
		var text strings.Builder
		var want []api.Mark
		for n := rnd.Intn(6); n > 0; n-- {
			if s := word(); rnd.Intn(2) == 0 && s != "" {
				text.WriteString(refs.Escape(s, false))
				want = append(want, api.Mark{Kind: api.MarkText, Text: s})
				continue
			}
			m := api.Mark{Kind: api.MarkStart, Name: "p"}
			text.WriteString("<p")
			for k := rnd.Intn(4); k > 0; k-- {
				a := api.Attr{Name: "n" + string(rune('0'+k)), Value: word()}
				m.Attrs = append(m.Attrs, a)
				text.WriteString(" " + a.Name + "=\"" + refs.Escape(a.Value, true) + "\"")
			}
			text.WriteString(">")
			want = append(want, m)
		}
		if l, e := All(text.String()); !reflect.DeepEqual(l, Join(want)) || e != api.OK {
			t.Fatalf("%q: %q, %d", text.String(), show(l), e)
		}
	}
}
