package policy

import (
	"math/rand"
	"reflect"
	"slices"
	"strings"
	"testing"
	"unicode/utf8"

	"colander/api"
)

// kinds are the document's, by their names.
func kinds() map[int]string {
	return map[int]string{
		KindBody: "body", KindFlow: "div blockquote", KindLine: "p h1 h2 h3 h4 h5 h6 pre", KindPhrase: "a b code em i meter progress s small span strong sub sup u", KindVoid: "br img", KindRule: "hr", KindList: "ol ul", KindItem: "li", KindTable: "table", KindTitle: "caption", KindGroup: "tbody tfoot thead", KindRow: "tr", KindCell: "td th",
		KindDrop: "applet audio base button canvas embed frame frameset head iframe input link meta noembed noframes object option param script select style template textarea title video xmp",
		KindNone: "html font LI svg math h7 center Body nobr noscript tt image col colgroup",
	}
}

// L1: Kind, May, Takes, name by name.
func TestKinds(t *testing.T) {
	flow := []int{KindFlow, KindLine, KindPhrase, KindVoid, KindRule, KindList, KindTable}
	line := []int{KindPhrase, KindVoid}
	may := map[int][]int{KindBody: flow, KindFlow: flow, KindLine: line, KindPhrase: line, KindList: {KindItem}, KindItem: flow, KindTable: {KindTitle, KindGroup}, KindTitle: line, KindGroup: {KindRow}, KindRow: {KindCell}, KindCell: flow}
	takes := []int{KindBody, KindFlow, KindLine, KindPhrase, KindItem, KindTitle, KindCell}
	for kind, names := range kinds() {
		for _, n := range strings.Fields(names) {
			if Kind(n) != kind {
				t.Errorf("Kind(%q): %d", n, Kind(n))
			}
			if Takes(n) != slices.Contains(takes, kind) {
				t.Errorf("Takes(%q)", n)
			}
			for other, kids := range kinds() {
				for _, k := range strings.Fields(kids) {
					want := slices.Contains(may[kind], other) && !(kind == KindPhrase && n == k)
					if May(n, k) != want {
						t.Errorf("May(%q, %q): not %v", n, k, want)
					}
				}
			}
		}
	}
	if Kind("") != KindNone || May("", "") || Takes("") || May("body", "") {
		t.Errorf("no name")
	}
}

// L2: Text.
func TestText(t *testing.T) {
	for s, want := range map[string]string{"": "", "a\tb\nc": "a\tb\nc", "\x00\x08\x0b\x0c\r\x1f a": " a", "\x7f\u0080\u009fé\u00a0": "é\u00a0", "\xff": "\ufffd", "\x80a": "\ufffda", "\xc2": "\ufffd", "a\u2028\U0010ffff": "a\u2028\U0010ffff"} {
		if Text(s) != want || Text(want) != want {
			t.Errorf("Text(%q): %q", s, Text(s))
		}
	}
}

// L2: Link and Scheme.
func TestLink(t *testing.T) {
	for s, want := range map[string]string{" Java\tScript:x": "JavaScript:x", "": "", " \n\t ": "", " a b\n c ": "a b c", "\x01 a\x00 ": "a", "\u00a0a": "\u00a0a", "j\x00a\nv\x7fa\u0085:": "java:"} {
		if Link(s) != want || Link(want) != want {
			t.Errorf("Link(%q): %q", s, Link(s))
		}
	}
	for s, want := range map[string]string{"JavaScript:x": "javascript", "http://a": "http", "a:": "a", "A1+-.:b:c": "a1+-.", "zZa09:x": "zza09"} {
		if n, ok := Scheme(s); n != want || !ok {
			t.Errorf("Scheme(%q): %q, %v", s, n, ok)
		}
	}
	for _, s := range []string{"a/b:c", "1:x", ":x", "x", "", "+a:b", "a b:c", "é:x", "a?b:c", "a#:b", "java\tscript:x", " http:x", "@:x", "[:x", "`:x", "{:x", "a;b:x", "a,:x", "a@:x"} {
		if n, ok := Scheme(s); n != "" || ok {
			t.Errorf("Scheme(%q): %q, %v", s, n, ok)
		}
	}
}

type asked struct{ elem, name, value, form string }

// L3: values that may be, and their form, which is its own.
func TestValue(t *testing.T) {
	long := strings.Repeat("x", 120)
	for _, a := range []asked{
		{"a", "href", "HTTP://a", "HTTP://a"}, {"meter", "value", "1e0", "1"}, {"p", "dir", "RTL", "rtl"}, {"a", "href", "", ""}, {"a", "href", " /x\ty ", "/xy"}, {"a", "href", "mailto:a", "mailto:a"}, {"a", "href", "https:", "https:"}, {"a", "href", "a/b:c", "a/b:c"}, {"img", "src", "http:x", "http:x"}, {"img", "src", "//x", "//x"}, {"img", "src", "https:x", "https:x"}, {"p", "lang", "z-Z09A", "z-Z09A"}, {"p", "title", " ~", " ~"},
		{"div", "title", "a\x00<b>", "a<b>"}, {"br", "title", "", ""}, {"td", "lang", "en-GB", "en-GB"}, {"hr", "lang", "abcdefghijklmnop", "abcdefghijklmnop"}, {"li", "dir", "Auto", "auto"}, {"u", "dir", "ltr", "ltr"}, {"img", "alt", "\r\n", "\n"}, {"img", "width", "9999", "9999"}, {"img", "height", "0", "0"}, {"ol", "start", "999999", "999999"}, {"ol", "start", "0", "0"}, {"td", "colspan", "1", "1"}, {"td", "rowspan", "1000", "1000"}, {"th", "colspan", "2", "2"}, {"th", "rowspan", "3", "3"},
		{"meter", "max", "1.50", "1.5"}, {"meter", "high", "-0", "0"}, {"meter", "low", ".5", "0.5"}, {"meter", "min", "1e21", "1e+21"}, {"progress", "max", "12.5E+1", "125"}, {"progress", "value", "1e-7", "1e-7"},
		{"p", "title", long, long}, {"p", "title", strings.Repeat("&", 24), strings.Repeat("&", 24)}, {"p", "title", "\u00a0" + long[:114], "\u00a0" + long[:114]}, {"p", "title", "\x00" + long, long}, {"a", "href", long + "  ", long}, {"p", "title", strings.Repeat("\"", 20), strings.Repeat("\"", 20)},
	} {
		if f, ok := Value(a.elem, a.name, a.value); f != a.form || !ok {
			t.Errorf("Value(%q, %q, %q): %q, %v", a.elem, a.name, a.value, f, ok)
		}
		if f, ok := Value(a.elem, a.name, a.form); f != a.form || !ok {
			t.Errorf("Value(%q, %q, %q) again: %q, %v", a.elem, a.name, a.form, f, ok)
		}
	}
}

// L3: values that may not be.
func TestValueNot(t *testing.T) {
	long := strings.Repeat("x", 121)
	for _, a := range []asked{
		{"a", "href", "javascript:x", ""}, {"b", "href", "/", ""}, {"td", "colspan", "01", ""}, {"a", "href", " java\nscript\x00:x", ""}, {"a", "href", "data:x", ""}, {"a", "href", "ftp:x", ""}, {"img", "src", "mailto:x", ""}, {"img", "src", "data:x", ""}, {"img", "href", "/", ""}, {"a", "src", "/", ""},
		{"body", "title", "x", ""}, {"body", "lang", "en", ""}, {"html", "title", "x", ""}, {"script", "title", "x", ""}, {"font", "title", "x", ""}, {"head", "lang", "en", ""}, {"meta", "charset", "utf-8", ""}, {"", "title", "x", ""}, {"P", "title", "x", ""}, {"p", "Title", "x", ""}, {"p", "", "x", ""}, {"p", "style", "x", ""}, {"p", "onclick", "x", ""}, {"p", "id", "x", ""}, {"p", "class", "x", ""},
		{"p", "lang", "", ""}, {"p", "lang", "1a", ""}, {"p", "lang", "-a", ""}, {"p", "lang", "a_b", ""}, {"p", "lang", "a b", ""}, {"p", "lang", "abcdefghijklmnopq", ""}, {"p", "lang", "é", ""}, {"p", "dir", "", ""}, {"p", "dir", " rtl", ""}, {"p", "dir", "left", ""},
		{"img", "width", "10000", ""}, {"img", "height", "1.0", ""}, {"img", "width", "-1", ""}, {"img", "width", "", ""}, {"p", "width", "1", ""}, {"ol", "start", "1000000", ""}, {"ul", "start", "1", ""}, {"td", "colspan", "0", ""}, {"td", "rowspan", "1001", ""}, {"tr", "rowspan", "1", ""},
		{"meter", "value", "x", ""}, {"meter", "max", "1e400", ""}, {"progress", "high", "1", ""}, {"progress", "min", "1", ""}, {"p", "value", "1", ""},
		{"p", "title", long, ""}, {"p", "title", strings.Repeat("&", 25), ""}, {"p", "title", strings.Repeat("\"", 21), ""}, {"p", "title", strings.Repeat("\u00a0", 21), ""}, {"a", "href", long, ""}, {"img", "alt", strings.Repeat("<", 31), ""},
	} {
		if f, ok := Value(a.elem, a.name, a.value); f != "" || ok {
			t.Errorf("Value(%q, %q, %.40q): %.40q, %v", a.elem, a.name, a.value, f, ok)
		}
	}
}

func list(pairs ...string) []api.Attr {
	var l []api.Attr
	for i := 0; i < len(pairs); i += 2 {
		l = append(l, api.Attr{Name: pairs[i], Value: pairs[i+1]})
	}
	return l
}

// L3: Attrs: the first one of each name, those that may be, by rising names.
func TestAttrs(t *testing.T) {
	in := list("title", "1", "onclick", "x", "href", "/", "title", "2")
	if l := Attrs("a", in); !reflect.DeepEqual(l, list("href", "/", "title", "1")) {
		t.Errorf("Attrs: %v", l)
	}
	if l := Attrs("a", list("href", "javascript:x", "href", "/", "dir", "RTL", "lang", "1", "lang", "en")); !reflect.DeepEqual(l, list("dir", "rtl")) {
		t.Errorf("Attrs: %v", l)
	}
	if in[0].Name != "title" || len(Attrs("body", in)) != 0 || len(Attrs("script", in)) != 0 || len(Attrs("a", nil)) != 0 {
		t.Errorf("Attrs of others")
	}
	if l := Attrs("meter", list("value", "1e0", "title", "t", "min", "0.50", "max", "x", "lang", "a", "high", "2", "low", "-0", "dir", "LTR")); !reflect.DeepEqual(l, list("dir", "ltr", "high", "2", "lang", "a", "low", "0", "min", "0.5", "title", "t", "value", "1")) {
		t.Errorf("Attrs: %v", l)
	}
}

func e(name string, kids ...api.Node) api.Node {
	return api.Node{Kind: api.NodeElem, Name: name, Kids: kids}
}

func x(s string) api.Node { return api.Node{Kind: api.NodeText, Text: s} }

func with(n api.Node, pairs ...string) api.Node {
	n.Attrs = list(pairs...)
	return n
}

func tree(kids ...api.Node) api.Node {
	return e("html", e("head", with(e("meta"), "charset", "utf-8")), e("body", kids...))
}

func titled(kids ...api.Node) api.Node {
	return e("html", e("head", with(e("meta"), "charset", "utf-8"), e("title", kids...)), e("body"))
}

// nest puts elements into one another, n of them.
func nest(n int, kids ...api.Node) []api.Node {
	for i := 0; i < n; i++ {
		kids = []api.Node{e("div", kids...)}
	}
	return kids
}

// mixed are elements and texts by turns, n of them.
func mixed(n int) []api.Node {
	l := many(n)
	for i := 1; i < n; i += 2 {
		l[i] = x("a")
	}
	return l
}

func many(n int) []api.Node {
	l := make([]api.Node, n)
	for i := range l {
		l[i] = e("br")
	}
	return l
}

// L4: trees that hold.
func TestHolds(t *testing.T) {
	for i, n := range []api.Node{
		tree(), titled(x("t")), tree(x("a"), e("p", x("b"), e("b", e("i", x("c")))), x("d")), tree(e("ul", e("li", e("ul"), x("a"))), e("ol")), tree(e("table", e("caption", x("c"), e("b")), e("tbody", e("tr", e("td", e("table")), e("th"))), e("tfoot"), e("thead"))), tree(e("hr"), e("br"), e("img"), e("blockquote", e("h1"), e("pre"))),
		tree(with(e("a"), "dir", "ltr", "href", "/", "lang", "en", "title", "t")), tree(nest(30)...), tree(nest(29, x("x"))...), tree(many(996)...), tree(mixed(996)...), tree(e("b", e("i")), e("b")), tree(x("a\t\n\u00a0")),
	} {
		if !Holds(n) {
			t.Errorf("tree %d does not hold", i)
		}
	}
}

// L4: trees that do not, each for one reason.
func TestHoldsNot(t *testing.T) {
	changed := func(n api.Node, change func(n *api.Node)) api.Node {
		change(&n)
		return n
	}
	inBody := func(change func(n *api.Node)) api.Node { return tree(changed(e("p"), change)) }
	inText := func(change func(n *api.Node)) api.Node { return tree(changed(x("a"), change)) }
	meta := with(e("meta"), "charset", "utf-8")
	for i, n := range []api.Node{
		{}, x("a"), e("html"), e("body"), with(tree(), "lang", "en"), changed(tree(), func(n *api.Node) { n.Text = "x" }), changed(tree(), func(n *api.Node) { n.Space = 1 }), changed(tree(), func(n *api.Node) { n.Kind = 3 }), changed(tree(), func(n *api.Node) { n.Name = "HTML" }), changed(tree(), func(n *api.Node) { n.Kids = append(n.Kids, x("a")) }), changed(tree(), func(n *api.Node) { n.Kids[0], n.Kids[1] = n.Kids[1], n.Kids[0] }),
		e("html", with(e("head", meta), "lang", "en"), e("body")), e("html", e("head"), e("body")), e("html", e("head", e("meta")), e("body")), e("html", e("head", with(e("meta"), "charset", "UTF-8")), e("body")), e("html", e("head", with(e("meta"), "charset", "utf-8", "charset", "utf-8")), e("body")), e("html", e("head", with(e("meta", x("a")), "charset", "utf-8")), e("body")), e("html", e("head", e("title", x("a")), meta), e("body")), e("html", e("head", meta, meta), e("body")), e("html", e("head", meta, e("title", x("a")), e("title", x("a"))), e("body")), e("html", e("head", meta, x("a")), e("body")), e("html", e("head", changed(meta, func(n *api.Node) { n.Space = 2 })), e("body")),
		titled(), titled(x("")), titled(x("a"), x("b")), titled(e("b")), titled(x("\x00")), titled(x("\xff")), e("html", e("head", meta, with(e("title", x("a")), "lang", "en")), e("body")), e("html", e("head", meta), with(e("body"), "title", "a")), e("html", e("head", meta), e("div")), e("html", e("head", meta), x("a")),
		tree(x("")), tree(x("a"), x("b")), tree(x("a\x00")), tree(x("a\r")), tree(x("\u0085")), tree(x("\x7f")), tree(x("\x80")), tree(e("ul", x("a"))), tree(e("table", x(" "))), tree(e("br", x("a"))), tree(e("hr", e("br"))), tree(e("li")), tree(e("td")), tree(e("caption")), tree(e("body")), tree(e("html")), tree(e("font")), tree(e("script")), tree(e("title", x("a"))), tree(e("p", e("p"))), tree(e("p", e("hr"))), tree(e("b", e("div"))), tree(e("b", e("b"))), tree(e("b", e("i", e("b")))), tree(e("a", e("b", e("i", e("a"))))), tree(e("ul", e("ul"))), tree(e("table", e("tr"))), tree(e("table", e("tbody"), e("caption"))), tree(e("table", e("caption"), e("caption"))), tree(e("tbody", e("td"))), tree(e("")),
		tree(with(e("a"), "href", "javascript:x")), tree(with(e("a"), "title", "1", "href", "/")), tree(with(e("a"), "href", "/", "href", "/")), tree(with(e("a"), "href", " /")), tree(with(e("p"), "dir", "RTL")), tree(with(e("meter"), "value", "1.0")), tree(with(e("p"), "onclick", "x")), tree(with(e("p"), "title", strings.Repeat("x", 121))), tree(with(e("a"), "dir", "ltr", "dir", "ltr")), tree(with(e("p"), "title", "\x00")),
		inBody(func(n *api.Node) { n.Text = "x" }), inBody(func(n *api.Node) { n.Space = api.SpaceSVG }), inBody(func(n *api.Node) { n.Space = -1 }), inBody(func(n *api.Node) { n.Kind = 0 }), inBody(func(n *api.Node) { n.Kind = 9 }), inText(func(n *api.Node) { n.Name = "b" }), inText(func(n *api.Node) { n.Space = 1 }), inText(func(n *api.Node) { n.Attrs = list("a", "b") }), inText(func(n *api.Node) { n.Kids = []api.Node{x("a")} }),
		tree(nest(31)...), tree(nest(30, x("x"))...), tree(many(997)...), tree(mixed(997)...), tree(append(mixed(996), e("br"))...), tree(nest(1<<16 - 9)...), changed(titled(x("t")), func(n *api.Node) { n.Kids[1].Kids = many(995) }),
	} {
		if Holds(n) {
			t.Errorf("tree %d holds", i)
		}
	}
	if n := titled(x("t")); !Holds(n) {
		t.Errorf("a title")
	} else if n.Kids[1].Kids = many(994); !Holds(n) {
		t.Errorf("as many nodes as may be, with a title")
	}
}

// L5: what follows, of any bytes.
func TestFollows(t *testing.T) {
	rnd := rand.New(rand.NewSource(18))
	some := []string{"a", "A", ":", "/", " ", "\t", "\n", "\x00", "\xff", "\u0085", "é", "http", "javascript", "mailto", "&", "\"", "1", ".", "e", "-", "rtl"}
	elems := []string{"a", "img", "td", "meter", "ol", "p", "body", "script"}
	names := []string{"href", "src", "alt", "title", "lang", "dir", "value", "max", "colspan", "start", "width"}
	for i := 0; i < 50000; i++ {
		word := func() string {
			s := ""
			for n := rnd.Intn(6); n > 0; n-- {
				s += some[rnd.Intn(len(some))]
			}
			return s
		}
		s := word()
		if p := Text(s); Text(p) != p || !utf8.ValidString(p) || Link(Link(s)) != Link(s) {
			t.Fatalf("Text(%q): %q", s, p)
		}
		elem := elems[rnd.Intn(len(elems))]
		var l []api.Attr
		for n := rnd.Intn(5); n > 0; n-- {
			l = append(l, api.Attr{Name: names[rnd.Intn(len(names))], Value: word()})
		}
		kept := Attrs(elem, l)
		if again := Attrs(elem, kept); len(again)+len(kept) > 0 && !reflect.DeepEqual(again, kept) {
			t.Fatalf("Attrs(%q, %q): %q; again: %q", elem, l, kept, again)
		}
		for _, a := range kept {
			if a.Name != "href" && a.Name != "src" {
				continue
			}
			if scheme, ok := Scheme(Link(a.Value)); ok && scheme != "http" && scheme != "https" && scheme != "mailto" {
				t.Fatalf("a link: %q", a.Value)
			}
		}
		if len(kept) > 0 && !Holds(tree(wrap(api.Node{Kind: api.NodeElem, Name: elem, Attrs: kept}))) {
			t.Fatalf("%q with %q does not hold", elem, kept)
		}
	}
}

// wrap puts an element where it may stand.
func wrap(n api.Node) api.Node {
	if n.Name == "td" {
		return e("table", e("tbody", e("tr", n)))
	}
	return n
}
