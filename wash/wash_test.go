package wash

import (
	"math/rand"
	"strings"
	"testing"
	"unicode/utf8"

	"colander/api"
	"colander/build"
	"colander/clean"
	"colander/leaf"
	"colander/policy"
)

const (
	begin = `<!DOCTYPE html><html><head><meta charset="utf-8">`
	none  = begin + "</head><body>"
	end   = "</body></html>"
)

func x(s string) api.Node { return api.Node{Kind: api.NodeText, Text: s} }

func e(name string, kids ...api.Node) api.Node {
	return api.Node{Kind: api.NodeElem, Name: name, Kids: kids}
}

func tree(kids ...api.Node) api.Node {
	n, _ := clean.Clean(e("html", e("body", kids...)))
	return n
}

// W1: Write.
func TestWrite(t *testing.T) {
	link := e("a", x("b"))
	link.Attrs = []api.Attr{{Name: "href", Value: "/?a&b<"}, {Name: "title", Value: "\"'\u00a0"}}
	for _, a := range []struct {
		n    api.Node
		want string
	}{
		{tree(), none + end}, {tree(x("a<b>&\u00a0\"'")), none + "a&lt;b&gt;&amp;&nbsp;\"'" + end}, {tree(link), none + `<a href="/?a&amp;b&lt;" title="&quot;'&nbsp;">b</a>` + end}, {tree(e("br"), e("img"), e("hr"), e("p")), none + "<br><img><hr><p></p>" + end},
		{tree(e("pre", x("a\n"))), none + "<pre>a\n</pre>" + end}, {tree(e("pre", x("\na"))), none + "<pre>\n\na</pre>" + end}, {tree(e("pre", x("\n"))), none + "<pre>\n\n</pre>" + end}, {tree(e("pre", e("b", x("\n")), x("\n"))), none + "<pre><b>\n</b>\n</pre>" + end}, {tree(e("pre")), none + "<pre></pre>" + end}, {tree(e("p", x("\n"))), none + "<p>\n</p>" + end},
	} {
		if got := Write(a.n); got != a.want {
			t.Errorf("Write: %s; not %s", got, a.want)
		}
	}
	n, _ := clean.Clean(e("html", e("head", e("title", x("a<&")))))
	if got := Write(n); got != begin+"<title>a&lt;&amp;</title></head><body>"+end {
		t.Errorf("Write of a title: %s", got)
	}
	for _, n := range []api.Node{{}, x("a"), e("html"), tree().Kids[1], e("html", tree().Kids[0], e("body", e("script")))} {
		if got := Write(n); got != "" {
			t.Errorf("Write of what does not hold: %s", got)
		}
	}
}

// W2: the document's examples, and others.
func TestPage(t *testing.T) {
	for body, want := range map[string]string{
		"<p>a<p>b<script>x</script>": none + "<p>a</p><p>b</p>" + end, `<title>t</title><a href=" javascript:x" title='"'>b`: begin + `<title>t</title></head><body><a title="&quot;">b</a>` + end, "<pre>\n\n\nx": none + "<pre>\n\n\nx</pre>" + end, "\xE4": none + "\xC3\xA4" + end, "": none + end,
		"<title> a\n</title>": begin + "<title> a\n</title></head><body>" + end, "<meta charset=utf-8>\xC3\xA4": none + "ä" + end, "\xEF\xBB\xBF\xC3\xA4": none + "ä" + end, "<svg><p>a": none + "<p>a</p>" + end, "<table>a<td>b": none + "a<table><tbody><tr><td>b</td></tr></tbody></table>" + end, "a\x00b\x01": none + "a\u00ef\u00bf\u00bdb" + end,
		"<textarea><p>a</textarea>b": none + "b" + end, "<xmp><p></xmp>": none + end, "<font>a<center>b</center>": none + "ab" + end, "<b>1<p>2</b>3": none + "<b>1</b><p><b>2</b>3</p>" + end, "<img src=x onerror=y>": none + `<img src="x">` + end, "<style>a</style><noscript>b</noscript>": none + "b" + end,
	} {
		if strings.Contains(body, "\x00") {
			want = none + "a\uFFFDb" + end
		}
		if got, e := Page([]byte(body), ""); string(got) != want || e != api.OK {
			t.Errorf("Page(%q): %s, %d; not %s", body, got, e, want)
		}
	}
	if got, e := Page([]byte("\xC3\xA4"), "utf-8"); string(got) != none+"ä"+end || e != api.OK {
		t.Errorf("Page by a charset: %s, %d", got, e)
	}
}

// W2: the errors, the first one that is.
func TestPageErrors(t *testing.T) {
	long := strings.Repeat("x", api.MaxBody)
	for _, a := range []struct {
		body, charset string
		want          api.Errno
	}{
		{"a", "utf-16", api.ErrCharset}, {long + "x", "", api.ErrBody}, {long + "x", "utf-16", api.ErrBody}, {"\xFF\xFE", "", api.ErrCharset}, {long, "", api.OK}, {strings.Repeat("<br>", 1500), "", api.ErrNodes}, {"<" + long[:3000] + ">", "", api.ErrMark}, {"<a a b c d e f g h i>", "", api.ErrAttrs}, {strings.Repeat("<div>", 40), "", api.ErrDepth}, {strings.Repeat("<x>", 40), "", api.ErrDepth}, {strings.Repeat("&", api.MaxBody), "", api.ErrPage}, {strings.Repeat("&", 6000), "", api.OK}, {strings.Repeat("<div>", 28) + "<b>a", "", api.OK}, {strings.Repeat("<div>", 28) + "<b>a", "utf-16", api.ErrCharset},
	} {
		got, e := Page([]byte(a.body), a.charset)
		if e != a.want || (e == api.OK) != (len(got) > 0) || len(got) > api.MaxPage {
			t.Errorf("Page(%.20q, %q): %d, %d bytes", a.body, a.charset, e, len(got))
		}
	}
}

// W2: a page of just as many bytes as may be, and of one more.
func TestPageLongest(t *testing.T) {
	room := api.MaxPage - len(none+end)
	body := strings.Repeat("&", room/5) + strings.Repeat("a", room%5)
	if got, e := Page([]byte(body), ""); e != api.OK || len(got) != api.MaxPage {
		t.Errorf("the longest page: %d, %d bytes", e, len(got))
	}
	if got, e := Page([]byte(body+"a"), ""); e != api.ErrPage || len(got) != 0 {
		t.Errorf("one byte more: %d, %d bytes", e, len(got))
	}
}

// checkPage checks what each washed page is, and that it is washed already.
func checkPage(t *testing.T, body string, page []byte) {
	t.Helper()
	n, wrong := build.Build(string(page))
	if wrong != api.OK || !utf8.Valid(page) || !policy.Holds(n) || Write(n) != string(page) {
		t.Fatalf("Page(%q): %s, %d", body, page, wrong)
	}
	if len(page) > api.MaxBody {
		return
	}
	for _, charset := range []string{"", "x", "utf-8", "UTF8"} {
		if again, wrong := Page(page, charset); string(again) != string(page) || wrong != api.OK {
			t.Fatalf("Page(%q): %s; again: %s, %d", body, page, again, wrong)
		}
	}
}

// W3, W4: of any bytes.
func TestAny(t *testing.T) {
	rnd := rand.New(rand.NewSource(20))
	parts := strings.Fields("<p> </p> <b> </b> <i> </i> <a> </a> <a#href='/'> <div> </div> <table> </table> <tr> <td> </td> </tr> <tbody> <caption> </caption> <svg> </svg> <title> </title> <ul> <ol> <li> </ul> <h1> </h1> <pre> <textarea> </textarea> <button> <object> <nobr> <br/> </br> <body> </body> <html> <style> </style> <!--c--> x & &lt; &nbsp; < > \" <meter#value=1.0> <span#title='&quot;'> <em> <blockquote> <td#colspan=2> <img#src=x#alt='<'> <hr> é \xff <p#dir=RTL#lang=en> <font> </font>")
	parts = append(parts, "\n", " ", "\r", "\x00", "\x7f", "<pre>\n", "<pre>", "\n")
	for i := 0; i < 4000; i++ {
		var s strings.Builder
		for n := rnd.Intn(24); n > 0; n-- {
			s.WriteString(strings.ReplaceAll(parts[rnd.Intn(len(parts))], "#", " "))
		}
		page, wrong := Page([]byte(s.String()), "utf-8")
		if wrong != api.OK {
			if wrong != api.ErrDepth {
				t.Fatalf("Page(%q): %d", s.String(), wrong)
			}
			continue
		}
		checkPage(t, s.String(), page)
	}
}

// random is a tree that holds, or is near to one: Clean makes it one.
func random(rnd *rand.Rand, depth int) api.Node {
	names := strings.Fields("p div b i a ul ol li table caption tbody tfoot tr td th br hr img h1 h2 pre meter span blockquote code u")
	if depth == 0 || rnd.Intn(4) == 0 {
		return x([]string{"a", "\n", "\n\n", " ", "&lt;", "<p>", "é\u00a0", "</p>", "]]>", "<!--"}[rnd.Intn(10)])
	}
	n := e(names[rnd.Intn(len(names))])
	if rnd.Intn(3) == 0 {
		n.Attrs = []api.Attr{{Name: "title", Value: "\"&<'\n"}, {Name: "href", Value: "/ \u00a0"}, {Name: "dir", Value: "LTR"}, {Name: "value", Value: "1.0"}, {Name: "alt", Value: "&copy=1"}, {Name: "width", Value: "7"}, {Name: "colspan", Value: "8"}}
	}
	for k := rnd.Intn(5); k > 0; k-- {
		n.Kids = append(n.Kids, random(rnd, depth-1))
	}
	return n
}

// W3, W4, P8: of any tree that holds.
func TestTrees(t *testing.T) {
	rnd := rand.New(rand.NewSource(201))
	for i := 0; i < 4000; i++ {
		n, wrong := clean.Clean(e("html", e("head", e("title", random(rnd, 0))), e("body", random(rnd, 6), random(rnd, 6), random(rnd, 8))))
		if wrong != api.OK {
			continue
		}
		page := Write(n)
		back, wrong := build.Build(page)
		if wrong != api.OK || !build.Same(back, n) {
			t.Fatalf("%s is read back as %s, %d", page, Write(back), wrong)
		}
		checkPage(t, page, []byte(page))
	}
}

// W5: the same characters, in whatever encoding.
func TestEncodings(t *testing.T) {
	for _, s := range []string{"<p title='ä'>ä€\u0081<b>", "é", "", "<!--ÿ--><table>\u00a0"} {
		latin, ok := leaf.Encode(s)
		if !ok {
			t.Fatalf("%q has no bytes", s)
		}
		a, wrong := Page(latin, "latin1")
		b, other := Page([]byte(s), "utf-8")
		c, third := Page([]byte("\xEF\xBB\xBF"+s), "latin1")
		if string(a) != string(b) || string(b) != string(c) || wrong != api.OK || other != api.OK || third != api.OK {
			t.Errorf("%q: %s, %s, %s", s, a, b, c)
		}
	}
}
