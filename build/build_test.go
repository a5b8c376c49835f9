package build

import (
	"math/rand"
	"strings"
	"testing"

	"colander/api"
	"colander/marks"
)

// show writes what is in a node; attributes by their names, other spaces as svg: and math:.
func show(n api.Node) string {
	var b strings.Builder
	for _, k := range n.Kids {
		if k.Kind == api.NodeText {
			b.WriteString("'" + k.Text + "'")
			continue
		}
		b.WriteString("<" + []string{"", "svg:", "math:"}[k.Space] + k.Name)
		for _, a := range k.Attrs {
			b.WriteString(" " + a.Name + "=" + a.Value)
		}
		b.WriteString(">")
		if len(k.Kids) > 0 {
			b.WriteString("(" + show(k) + ")")
		}
	}
	return b.String()
}

// page is what is in a body, or all of the tree if it is otherwise not as it must be at least.
func page(n api.Node) string {
	if len(n.Kids) == 2 && len(n.Attrs) == 0 && len(n.Kids[0].Kids)+len(n.Kids[0].Attrs) == 0 && n.Kids[0].Name == "head" && n.Kids[1].Name == "body" && len(n.Kids[1].Attrs) == 0 {
		return show(n.Kids[1])
	}
	return "html: " + show(n)
}

func check(t *testing.T, cases map[string]string) {
	t.Helper()
	for text, want := range cases {
		n, e := Build(text)
		if got := page(n); got != want || e != api.OK {
			t.Errorf("Build(%q): %s, %d; not %s", text, got, e, want)
		}
	}
}

// The document's examples.
func TestExamples(t *testing.T) {
	check(t, map[string]string{
		"<p>a<p>b": "<p>('a')<p>('b')", "<b>1<p>2</b>3": "<b>('1')<p>(<b>('2')'3')", "<table>x<tr><td>y": "'x'<table>(<tbody>(<tr>(<td>('y'))))", "<ul><li>a<li>b</ul>c": "<ul>(<li>('a')<li>('b'))'c'", "<a>1<a>2": "<a>('1')<a>('2')",
		"<svg><title><b>x": "<svg:svg>(<svg:title>(<b>('x')))", "<svg><g><b>x": "<svg:svg>(<svg:g>)<b>('x')", "<title>a</title>b": "html: <head>(<title>('a'))<body>('b')", "x</p></br>": "'x'<p><br>", "<table><td>1<td>2</table>3": "<table>(<tbody>(<tr>(<td>('1')<td>('2'))))'3'",
	})
}

// START, AHEAD, HEAD, BEHIND, TEXT.
func TestHeads(t *testing.T) {
	check(t, map[string]string{
		"": "", " \n": "", "x": "'x'", " x": "'x'", "</x>": "", "</head>x": "'x'", "</body>x": "'x'", "</br>x": "<br>'x'", "<!doctype html><!--a-->x": "'x'",
		"<html a=1>": "html: <head><body>", "<html><html b=2>x": "'x'", "<head a=1>": "html: <head a=1><body>", "<html> <head> </head> <body b=1> x": "html: <head>(' ')' '<body b=1>(' x')",
		"<meta><link><base><basefont><bgsound>x": "html: <head>(<meta><link><base><basefont><bgsound>)<body>('x')", "<title>a<b>&amp;</title> <meta>": "html: <head>(<title>('a<b>&')' '<meta>)<body>", "<style>&amp;<b></style><script></script><noframes><p></noframes>": "html: <head>(<style>('&amp;<b>')<script><noframes>('<p>'))<body>",
		"<head></head><title>a</title><body>x": "html: <head>(<title>('a'))<body>('x')", "<head></head> <meta> x": "html: <head>(<meta>)'  '<body>('x')", "<head><head></p></html>x": "'x'", "<head></head></head><head><html><frameset>x": "'x'", "<head></p>x</head>y": "'xy'", "</p>x": "'x'", "<head></head></p>x": "'x'",
		"<title>a": "html: <head>(<title>('a'))<body>", "<title>a</title": "html: <head>(<title>('a</title'))<body>", "<title>a</title ": "html: <head>(<title>('a'))<body>", "<head>  x": "html: <head>('  ')<body>('x')", "<head></head>  x": "html: <head>'  '<body>('x')", "<body><body a=1><head><html b=1>x": "'x'", "<p><title>a</title><meta>": "<p>(<title>('a')<meta>)", "<frameset>x": "'x'", "<frame>x": "'x'",
	})
	n, _ := Build("<html a=1>")
	if len(n.Attrs) != 1 || n.Name != "html" || n.Kind != api.NodeElem {
		t.Errorf("the html: %+v", n)
	}
}

// BODY: starts.
func TestBodyStarts(t *testing.T) {
	check(t, map[string]string{
		"<p><tr><td><caption><col><tbody>x": "<p>('x')", "<p><div>x": "<p><div>('x')", "<p><h1>a<h2>b": "<p><h1>('a')<h2>('b')", "<h1><p><h2>": "<h1>(<p>)<h2>", "<h1><b><h2>": "<h1>(<b>(<h2>))", "<p><hr>x": "<p><hr>'x'", "<p><table>": "<p><table>", "<p><button><p>x": "<p>(<button>(<p>('x')))",
		"<li><p><li>x": "<li>(<p>)<li>('x')", "<li><ul><li>x": "<li>(<ul>(<li>('x')))", "<li><div><li>x": "<li>(<div>)<li>('x')", "<li><section><li>x": "<li>(<section>(<li>('x')))", "<dd><dt>a<dd>b": "<dd><dt>('a')<dd>('b')", "<dl><dt><p><dd>": "<dl>(<dt>(<p>)<dd>)", "<li><b><li>x": "<li>(<b>)<li>(<b>('x'))",
		"<pre>\nx": "<pre>('x')", "<pre>\n\nx": "<pre>('\nx')", "<listing>\nx": "<listing>('x')", "<textarea>\nx</textarea>": "<textarea>('x')", "<pre><!---->\nx": "<pre>('\nx')", "<pre>\n</pre>\nx": "<pre>'\nx'", "<p>\nx": "<p>('\nx')", "<pre>\r\nx": "<pre>('x')", "<pre>&#10;x": "<pre>('x')", "<svg><desc><pre>\nx": "<svg:svg>(<svg:desc>(<pre>('x')))", "<table><pre>\nx": "<pre>('x')<table>", "<xmp>\nx": "<xmp>('\nx')",
		"<a>1<p>2<a>3": "<a>('1')<p>(<a>('2')<a>('3'))", "<a><b><a>x": "<a>(<b>)<b>(<a>('x'))", "<table><a>1<a>2": "<a>('1')<a>('2')<table>", "<nobr>1<nobr>2": "<nobr>('1')<nobr>('2')", "<nobr><b><nobr>x": "<nobr>(<b>)<b>(<nobr>('x'))", "<b></b>": "<b>", "<p><b>1</p><p>2": "<p>(<b>('1'))<p>(<b>('2'))", "<b><b><b><b></p>x": "<b>(<b>(<b>(<b>(<p>'x'))))",
		"<p><b><b><b><b>1<p>2": "<p>(<b>(<b>(<b>(<b>('1')))))<p>(<b>(<b>(<b>('2'))))",
		"<br>x<img><image a=1><input><keygen><wbr><area><embed>": "<br>'x'<img><img a=1><input><keygen><wbr><area><embed>", "<p><param><source><track>x": "<p>(<param><source><track>'x')", "<b></b><i>1</p>": "<b><i>('1'<p>)", "<p><i></p><br>": "<p>(<i>)<i>(<br>)", "<p><i></p><param>": "<p>(<i>)<param>",
		"<textarea><b>&lt;</textarea>x": "<textarea>('<b><')'x'", "<p><xmp><b></xmp>x": "<p><xmp>('<b>')'x'", "<iframe><b></iframe><noembed>&amp;</noembed>x": "<iframe>('<b>')<noembed>('&amp;')'x'", "<p><i></p><xmp>a</xmp>": "<p>(<i>)<i>(<xmp>('a'))", "<p><i></p><iframe>a": "<p>(<i>)<iframe>('a')",
		"<button>1<button>2": "<button>('1')<button>('2')", "<button><p><button>x": "<button>(<p>)<button>('x')", "<option>1<option>2<optgroup>3": "<option>('1')<option>('2')<optgroup>('3')", "<option><b><option>": "<option>(<b>(<option>))",
		"<b><object>x</b>y": "<b>(<object>('xy'))", "<b><object><i>x</object>y": "<b>(<object>(<i>('x'))'y')", "<marquee><p></marquee>x": "<marquee>(<p>)'x'", "<applet></p>x": "<applet>(<p>'x')", "<x><y>1</x>2": "<x>(<y>('1'))'2'", "<font><p>x</font>y": "<font><p>(<font>('x')'y')",
		"<dialog><p></dialog>x": "<dialog>(<p>)'x'", "<form><form>x": "<form>(<form>('x'))", "<p><details><summary>x": "<p><details>(<summary>('x'))", "<image/>x": "<img>'x'", "<div/>x": "<div>('x')",
	})
}

// BODY: ends, and AFTER.
func TestBodyEnds(t *testing.T) {
	check(t, map[string]string{
		"</p>": "", "x</p>": "'x'<p>", "<p>a</p>b": "<p>('a')'b'", "<button></p>x": "<button>(<p>'x')", "<p><button></p>x": "<p>(<button>(<p>'x'))", "<p><b></p>x": "<p>(<b>)<b>('x')",
		"<div><p>a</div>b": "<div>(<p>('a'))'b'", "<div><span></div>b": "<div>(<span>)'b'", "x</div>y": "'xy'", "<div><table></div>x": "<div>('x'<table>)", "<ul><li>a</ul>b": "<ul>(<li>('a'))'b'", "<ul><li><ul></li>x": "<ul>(<li>(<ul>('x')))", "<li><p></li>x": "<li>(<p>)'x'", "<dd><p></dd>x": "<dd>(<p>)'x'", "<dd></dt>x": "<dd>('x')", "<dd><ul></dd>x": "<dd>(<ul>)'x'",
		"<h1><b></h3>x": "<h1>(<b>)<b>('x')", "<h1></h2>x": "<h1>'x'", "</h1>x": "'x'", "<button><p></button>x": "<button>(<p>)'x'", "<pre><p></pre>x": "<pre>(<p>)'x'",
		"<b>1<i>2</b>3</i>4": "<b>('1'<i>('2'))<i>('3')'4'", "<b><div>1</b>2</div>": "<b><div>(<b>('1')'2')", "x</b>y": "'xy'", "<b><x></b>y": "<b>(<x>)'y'", "<a><p></a>x": "<a><p>(<a>'x')", "<b><em><s><u><i><p>1</b>2": "<b>(<em>(<s>(<u>(<i>))))<s>(<u>(<i>(<p>(<b>('1')'2'))))",
		"<object><b></object>x": "<object>(<b>)'x'", "</object>x": "'x'", "<br></br>x": "<br><br>'x'", "<b></p></br>": "<b>(<p><br>)", "<x><p></x>y": "<x>(<p>('y'))", "<x><div></x>y": "<x>(<div>('y'))", "<x><li></x>": "<x>(<li>)", "<span><span></span>a</span>b": "<span>(<span>'a')'b'", "</x>y": "'y'",
		"<rb><rp></rb>y": "<rb>(<rp>)'y'", "a</body>b": "'ab'", "a</html>b": "'ab'", "a</body> </html> b": "'a  b'", "a</body><p>b": "'a'<p>('b')", "a</body></p>b": "'a'<p>'b'", "a</html><!--x--> ": "'a '", "<b>a</body> c": "<b>('a c')", "<p><b>a</p></body> c": "<p>(<b>('a'))<b>(' c')", "a</body><html x=1>b": "'ab'", "<object></body>a": "<object>('a')", "<p><i></p></body>": "<p>(<i>)", "a</body></html></body></html> ": "'a '", "<li></body><li>b": "<li><li>('b')",
	})
}

// The modes of tables.
func TestTables(t *testing.T) {
	check(t, map[string]string{
		"<table> <tr> <td> x": "<table>(' '<tbody>(<tr>(' '<td>(' x'))))", "<table>a<!---->b": "'ab'<table>", "<table> <!---->b": "'b'<table>(' ')", "<table> a b": "' a b'<table>", "<table>a": "'a'<table>", "<table> ": "<table>(' ')",
		"<table><caption>a<b>b</caption>c<caption>d": "'c'<table>(<caption>('a'<b>('b'))<caption>('d'))", "<table><caption><p>a<tr><td>b": "<table>(<caption>(<p>('a'))<tbody>(<tr>(<td>('b'))))", "<table><caption></table>x": "<table>(<caption>)'x'", "<table><caption></td></body>x": "<table>(<caption>('x'))", "<table><caption><table></caption>x": "<table>(<caption>('x'<table>))",
		"<table><col><col a=1>": "<table>(<colgroup>(<col><col a=1>))", "<table><colgroup b=1> <col>x": "'x'<table>(<colgroup b=1>(' '<col>))", "<table><colgroup></col><html></colgroup><tr>": "<table>(<colgroup><tbody>(<tr>))", "<table><colgroup><!---->": "<table>(<colgroup>)", "<table><col></table>x": "<table>(<colgroup>(<col>))'x'", "<table><col><p>x": "<p>('x')<table>(<colgroup>(<col>))",
		"<table><tbody><tr><tfoot><tr>": "<table>(<tbody>(<tr>)<tfoot>(<tr>))", "<table><thead></tbody></thead><td>": "<table>(<thead><tbody>(<tr>(<td>)))", "<table><tr><td>a</tr><td>b": "<table>(<tbody>(<tr>(<td>('a'))<tr>(<td>('b'))))", "<table><tr></tbody>": "<table>(<tbody>(<tr>))", "<table><tr></thead><td>": "<table>(<tbody>(<tr>(<td>)))", "<table><tr><tr>": "<table>(<tbody>(<tr><tr>))", "<table><tbody></tr></td></caption></body></html><td>": "<table>(<tbody>(<tr>(<td>)))", "<table><tbody><caption>": "<table>(<tbody><caption>)", "<table><tr></td></th></col></body><td>": "<table>(<tbody>(<tr>(<td>)))", "<table><tr><col>": "<table>(<tbody>(<tr>)<colgroup>(<col>))",
		"<table><td><p>a<td>b": "<table>(<tbody>(<tr>(<td>(<p>('a'))<td>('b'))))", "<table><td></th>a</td>b": "'b'<table>(<tbody>(<tr>(<td>('a'))))", "<table><td></tbody>": "<table>(<tbody>(<tr>(<td>)))", "<table><td></thead>x": "<table>(<tbody>(<tr>(<td>('x'))))", "<table><td></caption></col></body>x": "<table>(<tbody>(<tr>(<td>('x'))))", "<table><th>a</table>b": "<table>(<tbody>(<tr>(<th>('a'))))'b'", "<table><td><tfoot>": "<table>(<tbody>(<tr>(<td>))<tfoot>)",
		"<table><b>a<tr>b": "<b>('a')<b>('b')<table>(<tbody>(<tr>))", "<table><p>x<td>y": "<p>('x')<table>(<tbody>(<tr>(<td>('y'))))", "<b><table><td>x</b>y": "<b>(<table>(<tbody>(<tr>(<td>('xy')))))", "<table><td><b>x<td>y": "<table>(<tbody>(<tr>(<td>(<b>('x'))<td>('y'))))", "<table><td><b>x</table>y": "<table>(<tbody>(<tr>(<td>(<b>('x')))))'y'",
		"<table><table>x": "<table>'x'<table>", "<table><td><table><td>x</table>y</table>z": "<table>(<tbody>(<tr>(<td>(<table>(<tbody>(<tr>(<td>('x'))))'y'))))'z'", "<table></table></table>x": "<table>'x'", "<table></p>x": "<p>'x'<table>", "<table></body></html></td></tr>x": "'x'<table>", "<table><style>a</style><script>b</script>": "<table>(<style>('a')<script>('b'))", "<table><title>a</title>x": "<title>('a')'x'<table>", "<table><tr><style>a</style><td>b": "<table>(<tbody>(<tr>(<style>('a')<td>('b'))))", "<table><tr>x<td>y": "'x'<table>(<tbody>(<tr>(<td>('y'))))", "<table><tr><form><input>x": "<form>(<input>'x')<table>(<tbody>(<tr>))",
		"<table><caption><table></table>x</caption>": "<table>(<caption>(<table>'x'))", "<table><colgroup><table>x": "<table>(<colgroup>)'x'<table>", "<div><table></div>": "<div>(<table>)", "<table><svg>x": "<svg:svg>('x')<table>", "<table><td></table><td>": "<table>(<tbody>(<tr>(<td>)))", "<p><table><tr>a<b>b": "<p>'a'<b>('b')<table>(<tbody>(<tr>))",
		"<table> x<td>": "' x'<table>(<tbody>(<tr>(<td>)))", "<table><tr> <td> <b> ": "<table>(<tbody>(<tr>(' '<td>(' '<b>(' ')))))", "<i><table>x": "<i>('x'<table>)", "<p><i></p><table>x<td>": "<p>(<i>)<i>('x')<table>(<tbody>(<tr>(<td>)))",
	})
}

// names are the document's, by what they are.
func names(kind string) []string {
	return strings.Fields(map[string]string{
		"blocks":   "address article aside blockquote center details dialog dir div dl fieldset figcaption figure footer form header hgroup main menu nav ol section summary ul",
		"headings": "h1 h2 h3 h4 h5 h6",
		"formed":   "b big code em font i s small strike strong tt u",
		"marked":   "applet marquee object",
		"single":   "area br embed img input keygen wbr",
		"head":     "base basefont bgsound link meta",
		"parts":    "caption col colgroup tbody td tfoot th thead tr",
	}[kind])
}

// Each name of a kind.
func TestKinds(t *testing.T) {
	cases := map[string]string{}
	for _, n := range append(names("blocks"), "pre", "listing") {
		cases["<p>a<"+n+">b"] = "<p>('a')<" + n + ">('b')"
		cases["<"+n+"><p>a</"+n+">b"] = "<" + n + ">(<p>('a'))'b'"
		cases["<"+n+"><x>a</"+n+">b"] = "<" + n + ">(<x>('a'))'b'"
	}
	for _, n := range names("headings") {
		cases["<p>a<"+n+">b"] = "<p>('a')<" + n + ">('b')"
		for _, o := range names("headings") {
			cases["<"+n+">a<"+o+">b"] = "<" + n + ">('a')<" + o + ">('b')"
			cases["<"+n+"><x>a</"+o+">b"] = "<" + n + ">(<x>('a'))'b'"
		}
	}
	for _, n := range append(names("formed"), "a", "nobr") {
		cases["<p><"+n+">a</p>b"] = "<p>(<" + n + ">('a'))<" + n + ">('b')"
		cases["<"+n+">a<div>b</"+n+">c"] = "<" + n + ">('a')<div>(<" + n + ">('b')'c')"
	}
	for _, n := range names("marked") {
		cases["<p><b><"+n+"></"+n+"></p>x"] = "<p>(<b>(<" + n + ">))<b>('x')"
		cases["<p><b></p><"+n+"><i></"+n+">x"] = "<p>(<b>)<b>(<" + n + ">(<i>)'x')"
		cases["<"+n+"></p></b>x"] = "<" + n + ">(<p>'x')"
	}
	for _, n := range names("single") {
		cases["<p><b></p><"+n+">x"] = "<p>(<b>)<b>(<" + n + ">'x')"
	}
	for _, n := range names("head") {
		cases["<p><b></p><"+n+">x"] = "<p>(<b>)<" + n + "><b>('x')"
		cases["<head></head><"+n+">"] = "html: <head>(<" + n + ">)<body>"
	}
	for _, n := range names("parts") {
		cases["<p>a<"+n+">b"] = "<p>('ab')"
	}
	check(t, cases)
}

// Where a mode passes over a mark, the next one is done by that mode.
func TestPassedOver(t *testing.T) {
	check(t, map[string]string{
		"</p> x": "'x'", "</head> x": "html: <head>' '<body>('x')", "</body> x": "' x'", "</html> x": "' x'", "</br> x": "<br>' x'", "<html></p> x": "'x'", "<html></head> x": "html: <head>' '<body>('x')", "<html></body> x": "' x'", "<html></html> x": "' x'", "<html><html> x": "'x'",
		"<head></p> x": "html: <head>(' ')<body>('x')", "<head></body> x": "' x'", "<head></html> x": "' x'", "<head></br> x": "<br>' x'", "<head><html> x": "html: <head>(' ')<body>('x')", "<head><head> x": "html: <head>(' ')<body>('x')",
		"<head></head></p> x": "html: <head>' '<body>('x')", "<head></head></head> x": "html: <head>' '<body>('x')", "<head></head></body> x": "' x'", "<head></head></html> x": "' x'", "<head></head></br> x": "<br>' x'", "<head></head><html> x": "html: <head>' '<body>('x')", "<head></head><head> x": "html: <head>' '<body>('x')", "<head></head><frameset> x": "html: <head>' '<body>('x')",
		"<table><colgroup><html><col>": "<table>(<colgroup>(<col>))", "<table><colgroup></col><col>": "<table>(<colgroup>(<col>))", "<table><colgroup></colgroup><col>": "<table>(<colgroup><colgroup>(<col>))",
	})
}

// What a table's modes close, and what they leave open.
func TestTablesClose(t *testing.T) {
	check(t, map[string]string{
		"<table><tbody></tbody> ": "<table>(<tbody>' ')", "<table><tbody></tfoot> ": "<table>(<tbody>(' '))", "<table><tr></tr> ": "<table>(<tbody>(<tr>' '))", "<table><tr><b></tr> ": "<b><table>(<tbody>(<tr>' '))", "<table><tbody><b></tbody> ": "<b><table>(<tbody>' ')", "<table><tbody> ": "<table>(<tbody>(' '))", "<table><thead> ": "<table>(<thead>(' '))", "<table><tfoot> ": "<table>(<tfoot>(' '))", "<table><tr> ": "<table>(<tbody>(<tr>(' ')))",
		"<table><tbody><b><tr>": "<b><table>(<tbody>(<tr>))", "<table><tbody><b><td>x": "<b><table>(<tbody>(<tr>(<td>('x'))))", "<table><tr><b><td>x": "<b><table>(<tbody>(<tr>(<td>('x'))))", "<table><b><caption>x": "<b><table>(<caption>('x'))", "<table><b><tr>": "<b><table>(<tbody>(<tr>))", "<table><b><col>": "<b><table>(<colgroup>(<col>))", "<table><b><tbody>": "<b><table>(<tbody>)",
		"<table><td><table></table><b></table>y": "<table>(<tbody>(<tr>(<td>(<table><b>))))'y'", "<table><th><table></table><b></table>y": "<table>(<tbody>(<tr>(<th>(<table><b>))))'y'", "<table><caption><table></table></caption>x<td>y": "'x'<table>(<caption>(<table>)<tbody>(<tr>(<td>('y'))))", "<table><caption><b></caption>x": "'x'<table>(<caption>(<b>))", "<table><td><b></td>x": "'x'<table>(<tbody>(<tr>(<td>(<b>))))", "<table><td><b><tr>x": "'x'<table>(<tbody>(<tr>(<td>(<b>))<tr>))",
		"<p>a<li>b": "<p>('a')<li>('b')", "<p><b></p></br>x": "<p>(<b>)<b>(<br>'x')", "x<frameset>y<frame>z": "'xyz'", "<p>a<dd>b": "<p>('a')<dd>('b')", "<p>a<xmp>b": "<p>('a')<xmp>('b')", "<p>a<hr>b": "<p>('a')<hr>'b'", "<dt><p></dt>a": "<dt>(<p>)'a'", "<li><address><li>": "<li>(<address>)<li>", "<a>1<table><a>2</table>3": "<a>('1'<a>('2')<table>)<a>('3')", "<b><b><b><b><i></b></b></b></b>x": "<b>(<b>(<b>(<b>(<i>))))<i>('x')", "<b><b><b><b></b></b></b><x></b>y": "<b>(<b>(<b>(<b>))<x>)'y'", "<nobr>1<p><nobr>2": "<nobr>('1')<p>(<nobr><nobr>('2'))", "<p><nobr></p><nobr>x": "<p>(<nobr>)<nobr><nobr>('x')",
	})
}

// Drawings and formulas.
func TestForeign(t *testing.T) {
	check(t, map[string]string{
		"<svg viewbox=1><clippath><G/>a": "<svg:svg viewBox=1>(<svg:clipPath>(<svg:g>'a'))", "<math definitionurl=1><mi>a<mglyph/>b<b>c": "<math:math definitionURL=1>(<math:mi>('a'<math:mglyph>'b'<b>('c')))", "<svg/>a": "<svg:svg>'a'", "<math/>a": "<math:math>'a'", "<svg><circle/><rect>x": "<svg:svg>(<svg:circle><svg:rect>('x'))",
		"<svg><g></SVG>x": "<svg:svg>(<svg:g>)'x'", "<svg><clippath></clippath>x": "<svg:svg>(<svg:clipPath>'x')", "<svg></p>x": "<svg:svg><p>'x'", "<svg></br>x": "<svg:svg><br>'x'", "<svg></x>y": "<svg:svg>('y')", "<div><svg></div>x": "<div>(<svg:svg>)'x'", "<svg><desc><div></desc>x": "<svg:svg>(<svg:desc>(<div>('x')))", "<svg><desc></svg>x": "<svg:svg>(<svg:desc>)'x'", "<svg><desc></desc><g>x": "<svg:svg>(<svg:desc><svg:g>('x'))",
		"<svg><font>x": "<svg:svg>(<svg:font>('x'))", "<svg><font size=1>x": "<svg:svg><font size=1>('x')", "<svg><foreignobject><svg><g><p>x": "<svg:svg>(<svg:foreignObject>(<svg:svg>(<svg:g>)<p>('x')))", "<math><annotation-xml><svg><p>x": "<math:math>(<math:annotation-xml>(<svg:svg>))<p>('x')", "<math><annotation-xml encoding=text/html><p>x": "<math:math>(<math:annotation-xml encoding=text/html>(<p>('x')))", "<math><mtext><svg>x": "<math:math>(<math:mtext>(<svg:svg>('x')))",
		"<svg><![CDATA[a<b>]]>c": "<svg:svg>('a<b>c')", "<![CDATA[a]]>c": "'c'", "<svg><title><![CDATA[a]]>": "<svg:svg>(<svg:title>('a'))", "<svg></svg><![CDATA[a]]>c": "<svg:svg>'c'", "<svg><title><b><![CDATA[a]]>c": "<svg:svg>(<svg:title>(<b>('c')))", "<svg><desc><p></desc>x": "<svg:svg>(<svg:desc>(<p>('x')))",
		"<svg><title>a<b></title>c": "<svg:svg>(<svg:title>('a'<b>('c')))", "<svg><title>a</title>c": "<svg:svg>(<svg:title>('a')'c')", "<svg><script>a<b>c</script>": "<svg:svg>(<svg:script>('a'))<b>('c')", "<svg><style>&lt;</style>": "<svg:svg>(<svg:style>('<'))", "<svg><textarea>a<g>": "<svg:svg>(<svg:textarea>('a'<svg:g>))", "<svg><tr>x": "<svg:svg>(<svg:tr>('x'))", "<table><tr><td><svg><td>x": "<table>(<tbody>(<tr>(<td>(<svg:svg>(<svg:td>('x'))))))", "<table><td><svg><desc><td>x": "<table>(<tbody>(<tr>(<td>(<svg:svg>(<svg:desc>))<td>('x'))))",
		"<svg></body>x": "<svg:svg>('x')", "<svg></html><g>": "<svg:svg>(<svg:g>)", "<p><svg><p>x": "<p>(<svg:svg>)<p>('x')", "<svg><p>x": "<svg:svg><p>('x')", "<b><svg></b>x": "<b>(<svg:svg>)'x'", "<p><svg><desc><p>x": "<p>(<svg:svg>(<svg:desc>(<p>('x'))))", "<svg> <!--a-->\n": "<svg:svg>(' \n')", "<svg>a\x00b": "<svg:svg>('a\ufffdb')",
	})
}

func m(kind int, name string) api.Mark { return api.Mark{Kind: kind, Name: name} }

func text(s string) api.Mark { return api.Mark{Kind: api.MarkText, Text: s} }

// Marks by hand: a line feed is left out of the next mark alone, and marks of no kind are nothing.
func TestMarks(t *testing.T) {
	pre := m(api.MarkStart, "pre")
	for _, a := range []struct {
		l    []api.Mark
		want string
	}{
		{nil, ""}, {[]api.Mark{pre, text("\nx")}, "<pre>('x')"}, {[]api.Mark{pre, text(""), text("\nx")}, "<pre>('\nx')"}, {[]api.Mark{pre, m(0, ""), m(7, ""), m(-1, "x"), text("\nx")}, "<pre>('x')"}, {[]api.Mark{pre, text("\n"), text("\nx")}, "<pre>('\nx')"}, {[]api.Mark{pre, m(api.MarkDoctype, ""), text("\nx")}, "<pre>('\nx')"}, {[]api.Mark{pre, m(api.MarkStart, "b"), text("\nx")}, "<pre>(<b>('\nx'))"},
		{[]api.Mark{text("a"), m(api.MarkEOF, ""), text("b")}, "'a'"}, {[]api.Mark{m(api.MarkStart, ""), text("a"), m(api.MarkEnd, ""), text("b")}, "<>('ab')"}, {[]api.Mark{text("\r a")}, "'a'"}, {[]api.Mark{m(api.MarkStart, "textarea"), m(api.MarkStart, "b"), text("x")}, "<textarea><b>('x')"}, {[]api.Mark{m(api.MarkStart, "body"), m(api.MarkStart, "style"), text("a"), m(api.MarkEnd, "x"), text("b")}, "<style>('a')'b'"}, {[]api.Mark{m(api.MarkStart, "table"), text("a"), m(0, ""), text(""), text("b"), m(api.MarkStart, "td")}, "'ab'<table>(<tbody>(<tr>(<td>)))"},
	} {
		n, e := Marks(a.l)
		if got := page(n); got != a.want || e != api.OK {
			t.Errorf("Marks(%+v): %s, %d; not %s", a.l, got, e, a.want)
		}
	}
}

// B1: Reads.
func TestReads(t *testing.T) {
	b := New()
	reads := func(mode int, name string, cdata bool) {
		t.Helper()
		if m, n, c := b.Reads(); m != mode || n != name || c != cdata {
			t.Errorf("Reads: %d, %q, %v", m, n, c)
		}
	}
	reads(0, "", false)
	b.Do(m(api.MarkStart, "title"))
	reads(api.ModeRefs, "title", false)
	b.Do(m(0, ""))
	reads(api.ModeRefs, "title", false)
	b.Do(text(""))
	reads(0, "", false)
	b.Do(m(api.MarkEnd, "title"))
	for name, mode := range map[string]int{"textarea": api.ModeRefs, "style": api.ModeRaw, "script": api.ModeRaw, "noframes": api.ModeRaw, "xmp": api.ModeRaw, "iframe": api.ModeRaw, "noembed": api.ModeRaw, "title": api.ModeRefs, "plaintext": 0, "noscript": 0, "p": 0} {
		b.Do(m(api.MarkStart, name))
		if mode == 0 {
			name = ""
		}
		reads(mode, name, false)
		b.Do(m(api.MarkEnd, name))
		reads(0, "", false)
	}
	b.Do(m(api.MarkStart, "svg"))
	reads(0, "", true)
	b.Do(m(api.MarkStart, "style"))
	reads(0, "", true)
	b.Do(m(api.MarkStart, "desc"))
	reads(0, "", true)
	b.Do(m(api.MarkStart, "script"))
	reads(api.ModeRaw, "script", false)
	b.Do(m(api.MarkComment, ""))
	reads(0, "", false)
}

// B1: too many nodes, and what is told behind that.
func TestErrNodes(t *testing.T) {
	full := func() *Builder {
		b := New()
		for i := 0; i < api.MaxNodes-3; i++ { // html, head and body are three
			if e := b.Do(m(api.MarkStart, "br")); e != api.OK {
				t.Fatalf("Do %d: %d", i, e)
			}
		}
		return b
	}
	b := full()
	if n, e := b.End(); e != api.OK || Count(n) != api.MaxNodes {
		t.Errorf("as many as may be: %d, %d", Count(n), e)
	}
	for _, a := range []struct {
		mark  api.Mark
		mode  int
		name  string
		cdata bool
	}{{text("x"), 0, "", false}, {m(api.MarkStart, "p"), 0, "", false}, {m(api.MarkStart, "title"), api.ModeRefs, "title", false}, {m(api.MarkStart, "xmp"), api.ModeRaw, "xmp", false}, {m(api.MarkStart, "svg"), 0, "", true}, {api.Mark{Kind: api.MarkStart, Name: "svg", Self: true}, 0, "", false}, {m(api.MarkEnd, "p"), 0, "", false}} {
		b := full()
		if e := b.Do(a.mark); e != api.ErrNodes {
			t.Errorf("Do(%+v): %d", a.mark, e)
		}
		if mode, name, cdata := b.Reads(); mode != a.mode || name != a.name || cdata != a.cdata {
			t.Errorf("Reads behind %+v: %d, %q, %v", a.mark, mode, name, cdata)
		}
		if e := b.Do(m(api.MarkComment, "")); e != api.ErrNodes {
			t.Errorf("Do again: %d", e)
		}
		if n, e := b.End(); e != api.ErrNodes || !Same(n, api.Node{}) {
			t.Errorf("End: %d", e)
		}
		if n, e := b.End(); e != api.ErrNodes || len(n.Kids) != 0 {
			t.Errorf("End again: %d", e)
		}
	}
	b = full()
	if e := b.Do(m(api.MarkEnd, "x")); e != api.OK {
		t.Errorf("Do of nothing: %d", e)
	}
	if n, e := Build(strings.Repeat("<br>", 998)); e != api.ErrNodes || len(n.Kids) != 0 {
		t.Errorf("Build: %d", e)
	}
	if _, e := Build(strings.Repeat("<br>", 996) + "x"); e != api.OK {
		t.Errorf("Build of as many as may be: %d", e)
	}
}

// B1: End, too deep, and behind the end.
func TestEnd(t *testing.T) {
	b := New()
	b.Do(m(api.MarkStart, "table"))
	b.Do(text("x"))
	n, e := b.End()
	if page(n) != "'x'<table>" || e != api.OK {
		t.Errorf("End: %s, %d", page(n), e)
	}
	n.Kids[1].Kids[0].Text = "changed"
	if e := b.Do(text("y")); e != api.ErrTree {
		t.Errorf("Do behind End: %d", e)
	}
	if e := b.Do(m(0, "")); e != api.ErrTree {
		t.Errorf("Do of no kind behind End: %d", e)
	}
	if n, e := b.End(); page(n) != "'x'<table>" || e != api.OK {
		t.Errorf("End again: %s, %d", page(n), e)
	}
	deep := strings.Repeat("<div>", api.MaxDepth-2)
	if n, e := Build(deep); e != api.OK || Depth(n) != api.MaxDepth {
		t.Errorf("as deep as may be: %d, %d", Depth(n), e)
	}
	if n, e := Build(deep + "x"); e != api.ErrDepth || len(n.Kids) != 0 {
		t.Errorf("too deep: %d", e)
	}
	b = New()
	for i := 0; i < 40; i++ {
		b.Do(m(api.MarkStart, "x"))
	}
	for i := 0; i < 2; i++ {
		if n, e := b.End(); e != api.ErrDepth || len(n.Kids) != 0 || n.Name != "" {
			t.Errorf("End: %d", e)
		}
		if e := b.Do(text("y")); e != api.ErrDepth {
			t.Errorf("Do behind that: %d", e)
		}
	}
	if n, e := New().End(); page(n) != "" || e != api.OK {
		t.Errorf("End of nothing: %s, %d", page(n), e)
	}
}

// B2: the first error.
func TestErrors(t *testing.T) {
	for s, want := range map[string]api.Errno{"<p>" + strings.Repeat("<br>", 999) + "<a a b c d e f g h i>": api.ErrNodes, "<a a b c d e f g h i>" + strings.Repeat("<br>", 999): api.ErrAttrs, "<" + strings.Repeat("x", 2048) + ">": api.ErrMark, strings.Repeat("<div>", 31) + "<a a b c d e f g h i>": api.ErrAttrs} {
		if n, e := Build(s); e != want || len(n.Kids) != 0 {
			t.Errorf("Build(%.30q): %d", s, e)
		}
	}
	l := []api.Mark{m(api.MarkStart, "p")}
	for len(l) < 1200 {
		l = append(l, m(api.MarkStart, "br"))
	}
	if n, e := Marks(l); e != api.ErrNodes || len(n.Kids) != 0 {
		t.Errorf("Marks: %d", e)
	}
}

// B3: Count, Depth, Same.
func TestCount(t *testing.T) {
	a := api.Node{Kind: 1, Space: 0, Name: "a", Attrs: []api.Attr{{Name: "x", Value: "1"}, {Name: "y", Value: "2"}}, Text: "t", Kids: []api.Node{{Kind: 2, Text: "x"}, {Kind: 9, Kids: []api.Node{{}}}}}
	if Count(a) != 4 || Depth(a) != 3 || Count(api.Node{}) != 1 || Depth(api.Node{}) != 1 {
		t.Errorf("Count %d, Depth %d", Count(a), Depth(a))
	}
	copyOf := func() api.Node {
		b := a
		b.Attrs = append([]api.Attr{}, a.Attrs...)
		b.Kids = append([]api.Node{}, a.Kids...)
		return b
	}
	if !Same(a, copyOf()) || !Same(api.Node{Attrs: []api.Attr{}, Kids: []api.Node{}}, api.Node{}) {
		t.Errorf("Same is false")
	}
	for i, change := range []func(n *api.Node){
		func(n *api.Node) { n.Kind = 2 }, func(n *api.Node) { n.Space = 1 }, func(n *api.Node) { n.Name = "b" }, func(n *api.Node) { n.Text = "" }, func(n *api.Node) { n.Attrs[1].Value = "3" }, func(n *api.Node) { n.Attrs = n.Attrs[:1] }, func(n *api.Node) { n.Attrs[0], n.Attrs[1] = n.Attrs[1], n.Attrs[0] },
		func(n *api.Node) { n.Kids[0].Text = "y" }, func(n *api.Node) { n.Kids = n.Kids[:1] }, func(n *api.Node) { n.Kids[0], n.Kids[1] = n.Kids[1], n.Kids[0] }, func(n *api.Node) { n.Kids[1].Kids = nil },
	} {
		b := copyOf()
		change(&b)
		if Same(a, b) || Same(b, a) {
			t.Errorf("Same is true of change %d", i)
		}
	}
}

// R1: deep trees made by hand.
func TestDeep(t *testing.T) {
	n := api.Node{Kind: 1}
	for i := 1; i < 1<<16; i++ {
		n = api.Node{Kind: 1, Kids: []api.Node{n}}
	}
	if Count(n) != 1<<16 || Depth(n) != 1<<16 || !Same(n, n) {
		t.Errorf("a deep tree")
	}
}

func words(rnd *rand.Rand) string {
	parts := strings.Fields("<p> </p> <b> </b> <i> </i> <a> </a> <div> </div> <table> </table> <tr> <td> </td> </tr> <tbody> <caption> </caption> <colgroup> <col> <svg> </svg> <title> </title> <desc> <math> <mi> </math> <ul> <li> </ul> <h1> </h1> <pre> <textarea> </textarea> <select> <option> <button> </button> <object> </object> <nobr> <br/> </br> <g/> <head> </head> <body> </body> <html> </html> <style> </style> <!--c--> x y <font> <font&#32;size=1> <image> <hr> <form> <dd> <dt> <xmp> </xmp> <![CDATA[z]]>")
	parts = append(parts, " ", "\n", "<font size=1>", "<p>", "<b>", "x", "<td>", "</b>", "<table>")
	var s strings.Builder
	for n := rnd.Intn(30); n > 0; n-- {
		s.WriteString(parts[rnd.Intn(len(parts))])
	}
	return s.String()
}

// sound checks what every page's tree is.
func sound(t *testing.T, s string, n api.Node) {
	t.Helper()
	bodies, first := 0, ""
	for _, k := range n.Kids {
		if k.Kind == api.NodeElem {
			if first == "" {
				first = k.Name
			}
			if k.Name == "body" {
				bodies++
			}
		}
	}
	if n.Name != "html" || n.Kind != api.NodeElem || first != "head" || bodies != 1 {
		t.Fatalf("%q: %s", s, show(n))
	}
	texts(t, s, n)
}

func texts(t *testing.T, s string, n api.Node) {
	t.Helper()
	for i, k := range n.Kids {
		if k.Kind == api.NodeText && (k.Text == "" || i > 0 && n.Kids[i-1].Kind == api.NodeText) {
			t.Fatalf("%q: %s", s, show(n))
		}
		texts(t, s, k)
	}
}

// B4: what follows.
func TestFollows(t *testing.T) {
	rnd := rand.New(rand.NewSource(17))
	for i := 0; i < 30000; i++ {
		s := words(rnd)
		n, e := Build(s)
		if e != api.OK {
			continue
		}
		sound(t, s, n)
		l, e := marks.All(s)
		if e != api.OK {
			t.Fatalf("%q: %d", s, e)
		}
		whole, e := Marks(l)
		var cutUp []api.Mark
		for j, k := range l {
			if k.Kind == api.MarkText && (j == 0 || l[j-1].Kind != api.MarkStart) {
				for _, c := range []byte(k.Text) {
					cutUp = append(cutUp, text(string([]byte{c})))
				}
				continue
			}
			cutUp = append(cutUp, k)
		}
		pieces, f := Marks(cutUp)
		if e != f || !Same(whole, pieces) {
			t.Fatalf("%q: %s; cut up: %s", s, show(whole), show(pieces))
		}
	}
}
