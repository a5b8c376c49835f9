package foreign

import (
	"reflect"
	"slices"
	"strings"
	"testing"

	"colander/api"
)

const (
	html = api.SpaceHTML
	svg  = api.SpaceSVG
	math = api.SpaceMath
)

func encoding(values ...string) []api.Attr {
	l := []api.Attr{{Name: "x", Value: "text/html"}}
	for _, v := range values {
		l = append(l, api.Attr{Name: "encoding", Value: v})
	}
	return l
}

// G1: Point.
func TestPoint(t *testing.T) {
	for _, a := range []struct {
		space int
		names string
		attrs []api.Attr
		point int
	}{
		{svg, "foreignObject desc title", nil, PointPage}, {html, "foreignObject desc title mi mo mn ms mtext annotation-xml", encoding("text/html"), PointNone}, {math, "foreignObject desc title", nil, PointNone}, {svg, "foreignobject Title g annotation-xml mi mo", encoding("text/html"), PointNone}, {math, "mi mo mn ms mtext", nil, PointText}, {math, "math mrow Mi", nil, PointNone}, {3, "title mi", nil, PointNone}, {-1, "title mi", nil, PointNone},
		{math, "annotation-xml", nil, PointNone}, {math, "annotation-xml", encoding("Text/HTML"), PointPage}, {math, "annotation-xml", encoding("APPLICATION/xhtml+xml"), PointPage}, {math, "annotation-xml", encoding("text/html "), PointNone}, {math, "annotation-xml", encoding("x", "text/html"), PointNone}, {math, "annotation-xml", encoding("text/html", "x"), PointPage}, {math, "annotation-xml", []api.Attr{{Name: "Encoding", Value: "text/html"}}, PointNone}, {math, "mi", encoding("text/html"), PointText},
	} {
		for _, n := range strings.Fields(a.names) {
			if p := Point(a.space, n, a.attrs); p != a.point {
				t.Errorf("Point(%d, %q, %v): %d", a.space, n, a.attrs, p)
			}
		}
	}
}

func start(name string) api.Mark { return api.Mark{Kind: api.MarkStart, Name: name} }
func end(name string) api.Mark   { return api.Mark{Kind: api.MarkEnd, Name: name} }

// G2: Foreign.
func TestForeign(t *testing.T) {
	text, comment, doctype, eof := api.Mark{Kind: api.MarkText, Text: "x"}, api.Mark{Kind: api.MarkComment}, api.Mark{Kind: api.MarkDoctype}, api.Mark{Kind: api.MarkEOF}
	for _, a := range []struct {
		space    int
		name     string
		attrs    []api.Attr
		yes, not []api.Mark
	}{
		{math, "mi", nil, []api.Mark{start("mglyph"), start("malignmark"), end("mi"), end("b"), comment, doctype}, []api.Mark{start("b"), start("svg"), text, eof}},
		{svg, "g", nil, []api.Mark{start("b"), comment, text, end("p"), start("svg"), doctype}, []api.Mark{eof}},
		{svg, "title", nil, []api.Mark{end("title"), comment}, []api.Mark{start("b"), text, eof, start("mglyph"), start("svg")}},
		{math, "annotation-xml", nil, []api.Mark{start("b"), text, end("svg"), start("math"), start("SVG")}, []api.Mark{start("svg"), eof}},
		{math, "annotation-xml", encoding("text/html"), []api.Mark{end("svg"), comment}, []api.Mark{start("svg"), start("b"), text, eof}},
		{svg, "annotation-xml", nil, []api.Mark{start("svg"), text}, []api.Mark{eof}},
		{math, "math", nil, []api.Mark{start("svg"), text, start("b")}, []api.Mark{eof}},
		{html, "title", nil, nil, []api.Mark{start("b"), text, comment, end("p"), eof, start("mglyph")}},
		{3, "g", nil, nil, []api.Mark{start("b"), text}}, {-1, "g", nil, nil, []api.Mark{start("b"), text}},
	} {
		for _, m := range a.yes {
			if !Foreign(a.space, a.name, a.attrs, m) {
				t.Errorf("Foreign(%d, %q, %v, %+v) is false", a.space, a.name, a.attrs, m)
			}
		}
		for _, m := range a.not {
			if Foreign(a.space, a.name, a.attrs, m) {
				t.Errorf("Foreign(%d, %q, %v, %+v) is true", a.space, a.name, a.attrs, m)
			}
		}
	}
}

// G3: Breaks.
func TestBreaks(t *testing.T) {
	breaks := strings.Fields("b big blockquote body br center code dd div dl dt em embed h1 h2 h3 h4 h5 h6 head hr i img li listing menu meta nobr ol p pre ruby s small span strong strike sub sup table tt u ul var")
	for _, n := range append(breaks, "font", "a", "html", "td", "svg", "B", "", "h7", "title", "button") {
		if Breaks(start(n)) != slices.Contains(breaks, n) {
			t.Errorf("Breaks of start %q", n)
		}
		if Breaks(end(n)) != (n == "br" || n == "p") {
			t.Errorf("Breaks of end %q", n)
		}
		if Breaks(api.Mark{Kind: api.MarkText, Name: n}) || Breaks(api.Mark{Kind: api.MarkComment, Name: n}) || Breaks(api.Mark{Name: n}) {
			t.Errorf("Breaks of no tag %q", n)
		}
	}
	for name, want := range map[string]bool{"color": true, "face": true, "size": true, "Size": false, "style": false} {
		m := start("font")
		m.Attrs = []api.Attr{{Name: "x"}, {Name: name}}
		if Breaks(m) != want {
			t.Errorf("Breaks of font with %s", name)
		}
		m.Name = "a"
		if Breaks(m) {
			t.Errorf("Breaks of a with %s", name)
		}
	}
}

const elements = "altGlyph animateMotion animateTransform clipPath feGaussianBlur foreignObject glyphRef linearGradient radialGradient textPath"
const attributes = "attributeName gradientTransform gradientUnits pathLength patternUnits preserveAspectRatio refX refY stdDeviation textLength viewBox"

// G4, G5: Name.
func TestName(t *testing.T) {
	for _, n := range strings.Fields(elements) {
		small := strings.ToLower(n)
		if Name(svg, small) != n || Name(svg, n) != n || Name(math, small) != small || Name(html, small) != small || Name(3, small) != small {
			t.Errorf("Name of %q", n)
		}
	}
	for _, n := range []string{"", "g", "CLIPPATH", "title", "é\xff", "viewbox"} {
		if Name(svg, n) != n {
			t.Errorf("Name of %q: %q", n, Name(svg, n))
		}
	}
}

// G4, G5: Attrs.
func TestAttrs(t *testing.T) {
	for _, n := range append(strings.Fields(attributes), "definitionURL") {
		small := strings.ToLower(n)
		for _, space := range []int{html, svg, math, 3} {
			want := small
			if space == svg && n != "definitionURL" || space == math && n == "definitionURL" {
				want = n
			}
			l := []api.Attr{{Name: small, Value: "ViewBox"}, {Name: "x", Value: small}, {Name: small, Value: "2"}}
			told := Attrs(space, l)
			if !reflect.DeepEqual(told, []api.Attr{{Name: want, Value: "ViewBox"}, {Name: "x", Value: small}, {Name: want, Value: "2"}}) {
				t.Errorf("Attrs(%d, %v): %v", space, l, told)
			}
			if l[0].Name != small || !reflect.DeepEqual(Attrs(space, told), told) {
				t.Errorf("Attrs(%d) of %v again, %v", space, told, l)
			}
		}
	}
	if len(Attrs(svg, nil)) != 0 {
		t.Errorf("Attrs of nothing")
	}
}
