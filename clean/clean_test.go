package clean

import (
	"math/rand"
	"reflect"
	"strings"
	"testing"

	"colander/api"
	"colander/build"
	"colander/policy"
)

func x(s string) api.Node { return api.Node{Kind: api.NodeText, Text: s} }

// parse reads [name kids] and words; a word ahead of which svg: stands is an element of SpaceSVG.
func parse(s string) []api.Node {
	s = strings.NewReplacer("[", " [ ", "]", " ] ").Replace(s)
	l, _ := nodes(strings.Fields(s))
	return l
}

func nodes(words []string) ([]api.Node, []string) {
	var l []api.Node
	for len(words) > 0 && words[0] != "]" {
		if words[0] != "[" {
			l = append(l, x(words[0]))
			words = words[1:]
			continue
		}
		n := api.Node{Kind: api.NodeElem, Name: words[1]}
		if rest, ok := strings.CutPrefix(n.Name, "svg:"); ok {
			n.Space, n.Name = api.SpaceSVG, rest
		}
		n.Kids, words = nodes(words[2:])
		words = words[1:]
		l = append(l, n)
	}
	return l, words
}

func show(l []api.Node) string {
	var s []string
	for _, n := range l {
		if n.Kind == api.NodeText {
			s = append(s, n.Text)
			continue
		}
		t := "[" + n.Name
		for _, a := range n.Attrs {
			t += " " + a.Name + "=" + a.Value
		}
		if len(n.Kids) > 0 {
			t += " " + show(n.Kids)
		}
		s = append(s, t+"]")
	}
	return strings.Join(s, " ")
}

// C1: Filter, in a body or another element.
func TestFilter(t *testing.T) {
	for _, a := range []struct{ parent, in, out string }{
		{"body", "[div [font x [script y]] z]", "[div xz]"}, {"body", "[p [div a [b c]]]", "[p a [b c]]"}, {"body", "[b [i [b x]]]", "[b [i x]]"}, {"body", "[ul x [div [li a]] [li b]]", "[ul [li a] [li b]]"}, {"body", "[table [tbody [tr [td 1]]] [caption c]]", "[table [tbody [tr [td 1]]]]"}, {"body", "[svg:svg [a x]]", ""},
		{"body", "a b [font c] d [svg:b e] f", "abcdf"}, {"body", "[applet a][title b][head c][video d][select e]", ""}, {"body", "[html [head a] [body b]] [body [p c]]", "b [p c]"}, {"body", "[svg:p x] [p [svg:desc y] z]", "[p z]"}, {"body", "[li x] [td y] [caption z] [tr [td w]]", "xyzw"},
		{"body", "[br x][hr [p y]][img z]", "[br] [hr] [img]"}, {"body", "[p [hr] [ul [li a]] [p b]]", "[p ab]"}, {"body", "[h1 [table [tbody [tr [td [p x]]]]]]", "[h1 x]"},
		{"body", "[a [b [a x] [font [a y]]]] [a z]", "[a [b xy]] [a z]"}, {"b", "[b x] [i [b y]] [p z]", "x [i y] z"}, {"i", "[b x] [b [i [i y]]]", "[b x] [b y]"}, {"body", "[p [b x]] [b [p [b y]]]", "[p [b x]] [b y]"},
		{"table", "[caption a] [caption b] x [tr [td c]]", "[caption a]"}, {"table", "[tbody [tr [td x]]] [caption c]", "[tbody [tr [td x]]]"}, {"table", "x [font [caption a]] [tfoot]", "[caption a] [tfoot]"}, {"body", "[table [div [tbody [font [tr x [td y]]]]]]", "[table [tbody [tr [td y]]]]"}, {"body", "[table [caption a [table [caption b]]]]", "[table [caption ab]]"}, {"body", "[table [caption a]] [table [caption b]]", "[table [caption a]] [table [caption b]]"},
		{"ol", "x [li y [ol z [li w]]]", "[li y [ol [li w]]]"}, {"tr", "[td a] [tr [th b]] c", "[td a] [th b]"}, {"ul", "[p [li [p a]]]", "[li [p a]]"},
		{"font", "x [p y]", ""}, {"", "x [p y]", ""}, {"br", "x [b y]", ""}, {"script", "x [b y]", ""}, {"html", "[body x] [p y]", ""}, {"body", "", ""}, {"li", "[div [li x]]", "[div x]"},
	} {
		if got := show(Filter(a.parent, parse(a.in))); got != a.out {
			t.Errorf("Filter(%q, %s): %s; not %s", a.parent, a.in, got, a.out)
		}
	}
}

// C1: texts are made plain, attributes are kept that may be; what else a node holds is not looked at.
func TestFilterNodes(t *testing.T) {
	l := []api.Node{
		x("a\x00"), x("\x01"), x("b\xff"), {Kind: 0, Kids: []api.Node{x("c")}}, {Kind: 3, Text: "d"}, {Kind: -1, Name: "p"},
		{Kind: api.NodeElem, Name: "a", Text: "t", Attrs: []api.Attr{{Name: "title", Value: "1"}, {Name: "onclick", Value: "2"}, {Name: "href", Value: " /"}, {Name: "title", Value: "3"}}},
		{Kind: api.NodeText, Text: "e", Space: 1, Name: "script", Attrs: []api.Attr{{}}, Kids: []api.Node{x("f")}},
	}
	want := []api.Node{x("ab\ufffd"), {Kind: api.NodeElem, Name: "a", Attrs: []api.Attr{{Name: "href", Value: "/"}, {Name: "title", Value: "1"}}}, x("e")}
	got := Filter("body", l)
	if !reflect.DeepEqual(got, want) {
		t.Errorf("Filter: %+v", got)
	}
	if len(l[6].Attrs) != 4 || l[6].Attrs[2].Value != " /" {
		t.Errorf("Filter writes into what it is given")
	}
}

func elems(name string, kids ...api.Node) api.Node {
	return api.Node{Kind: api.NodeElem, Name: name, Kids: kids}
}

// C2: Title.
func TestTitle(t *testing.T) {
	for _, a := range []struct{ in, want string }{
		{"[head [title a]]", "a"}, {"", ""}, {"[head]", ""}, {"[body [title a]]", ""}, {"[head [meta] [title a b]]", "ab"}, {"[head [title a] [title b]] [head [title c]]", "a"}, {"[head] [head [title c]]", ""}, {"[head [title] [title b]]", ""}, {"[svg:head [title a]] [head [svg:title b] [title c]]", "c"}, {"[head [title a [b x] c]]", "ac"}, {"[head [b [title a]]]", ""}, {"x [head y [title z]]", "z"},
	} {
		if got := Title(elems("html", parse(a.in)...)); got != a.want {
			t.Errorf("Title of %s: %q", a.in, got)
		}
	}
	if got := Title(elems("html", elems("head", elems("title", x("a\x00\xc3"), x("\xa9\r"))))); got != "aé" {
		t.Errorf("Title is not plain: %q", got)
	}
	if Title(api.Node{}) != "" || Title(x("a")) != "" {
		t.Errorf("Title of no element")
	}
}

// C3: Clean.
func TestClean(t *testing.T) {
	const meta = "[head [meta charset=utf-8]]"
	for _, a := range []struct{ in, want string }{
		{"", meta + " [body]"}, {"[head [title a]] [body x]", "[head [meta charset=utf-8] [title a]] [body x]"}, {"[body a] [p b] [body c [p d]] [svg:body e]", meta + " [body ac [p d]]"}, {"x [head [link]] [body [script y]]", meta + " [body]"}, {"[head [title [b x]]]", meta + " [body]"},
	} {
		n, e := Clean(elems("html", parse(a.in)...))
		if e != api.OK || n.Name != "html" || n.Kind != api.NodeElem || show(n.Kids) != a.want || !policy.Holds(n) {
			t.Errorf("Clean of %s: %s, %d", a.in, show(n.Kids), e)
		}
	}
	for _, n := range []api.Node{{}, x("a"), {Kind: 9, Kids: parse("[body x]")}, {Kind: api.NodeText, Kids: parse("[body x]")}} {
		if got, e := Clean(n); e != api.OK || show(got.Kids) != meta+" [body]" {
			t.Errorf("Clean of %+v: %s, %d", n, show(got.Kids), e)
		}
	}
}

// C3: too many, too deep.
func TestCleanErrors(t *testing.T) {
	brs := func(n int) []api.Node {
		l := make([]api.Node, n)
		for i := range l {
			l[i] = elems("br")
		}
		return l
	}
	deep := func(n int, kids ...api.Node) api.Node {
		d := elems("div", kids...)
		for i := 1; i < n; i++ {
			d = elems("div", d)
		}
		return d
	}
	for i, a := range []struct {
		n    api.Node
		want api.Errno
	}{
		{elems("html", elems("body", brs(996)...)), api.OK}, {elems("html", elems("body", brs(997)...)), api.ErrNodes}, {elems("html", elems("head", elems("title", x("t"))), elems("body", brs(994)...)), api.OK}, {elems("html", elems("head", elems("title", x("t"))), elems("body", brs(995)...)), api.ErrNodes},
		{elems("html", elems("body", deep(30))), api.OK}, {elems("html", elems("body", deep(31))), api.ErrDepth}, {elems("html", elems("body", deep(30, x("a")))), api.ErrDepth}, {elems("html", elems("body", append(brs(970), deep(31))...)), api.ErrNodes}, {elems("html", elems("body", deep(1<<16-9))), api.ErrNodes},
	} {
		n, e := Clean(a.n)
		if e != a.want || e != api.OK && (n.Kind != 0 || len(n.Kids) != 0) {
			t.Errorf("case %d: %d", i, e)
		}
	}
	font := x("a")
	for i := 0; i < 1<<16-9; i++ {
		font = elems("font", font)
	}
	if n, e := Clean(elems("html", elems("body", font))); e != api.OK || show(n.Kids[1].Kids) != "a" {
		t.Errorf("deep, and let through: %d", e)
	}
}

func random(rnd *rand.Rand, depth int) api.Node {
	names := strings.Fields("p div b i a ul li table caption tbody tr td br hr font script svg img h1 pre title body head html meter span")
	if depth == 0 || rnd.Intn(4) == 0 {
		return x([]string{"a", "b ", "\x00", "é\xff", "", "\n"}[rnd.Intn(6)])
	}
	n := elems(names[rnd.Intn(len(names))])
	n.Space = rnd.Intn(12) / 11
	if rnd.Intn(3) == 0 {
		n.Attrs = []api.Attr{{Name: "title", Value: "x"}, {Name: "href", Value: "a:b"}, {Name: "dir", Value: "LTR"}, {Name: "value", Value: "1.0"}}
	}
	for k := rnd.Intn(4); k > 0; k-- {
		n.Kids = append(n.Kids, random(rnd, depth-1))
	}
	return n
}

// texts are the texts below a node, one behind the other.
func texts(n api.Node) string {
	s := n.Text
	for _, k := range n.Kids {
		s += texts(k)
	}
	return s
}

// within tells whether the characters of a stand in b, in that order.
func within(a, b string) bool {
	l := []rune(b)
	for _, r := range a {
		for len(l) > 0 && l[0] != r {
			l = l[1:]
		}
		if len(l) == 0 {
			return false
		}
		l = l[1:]
	}
	return true
}

// C4: what follows, of any tree.
func TestFollows(t *testing.T) {
	rnd := rand.New(rand.NewSource(19))
	for i := 0; i < 20000; i++ {
		tree := elems("html", random(rnd, 3), elems("head", elems("title", random(rnd, 1))), elems("body", random(rnd, 7), random(rnd, 7)))
		n, e := Clean(tree)
		if e != api.OK {
			continue
		}
		if !policy.Holds(n) {
			t.Fatalf("%s does not hold", show(n.Kids))
		}
		again, e := Clean(n)
		if e != api.OK || !build.Same(again, n) {
			t.Fatalf("%s; again: %s", show(n.Kids), show(again.Kids))
		}
		if a, b := texts(n.Kids[1]), policy.Text(texts(tree)); !within(a, b) {
			t.Fatalf("%q came out of %q", a, b)
		}
	}
}
