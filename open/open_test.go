package open

import (
	"math"
	"math/rand"
	"reflect"
	"slices"
	"strings"
	"testing"

	"colander/api"
)

func attrs(names ...string) []api.Attr {
	var l []api.Attr
	for _, n := range names {
		l = append(l, api.Attr{Name: n, Value: n + "v"})
	}
	return l
}

// three is the examples' tree: a, b, c are 1, 2, 3.
func three() *Tree {
	t := New(9)
	for _, n := range []string{"a", "b", "c"} {
		t.Elem(api.SpaceHTML, n, nil)
	}
	return t
}

const voids = "area base basefont bgsound br col embed frame hr img input keygen link meta param source track wbr"

// O1: Void and Special, name by name.
func TestNames(t *testing.T) {
	special := map[int]string{
		api.SpaceHTML: voids + " address applet article aside blockquote body button caption center colgroup dd details dir div dl dt fieldset figcaption figure footer form h1 h2 h3 h4 h5 h6 head header html iframe li listing main marquee menu nav noembed noframes object ol p pre script section select style summary table tbody td textarea tfoot th thead title tr ul xmp",
		api.SpaceMath: "mi mo mn ms mtext annotation-xml",
		api.SpaceSVG:  "foreignObject desc title",
	}
	all := " b span svg math dialog hgroup template option image h7 foreignobject BR Mi annotation"
	for _, s := range special {
		all += " " + s
	}
	for _, n := range append(strings.Fields(all), "") {
		if Void(n) != slices.Contains(strings.Fields(voids), n) {
			t.Errorf("Void(%q)", n)
		}
		for _, space := range []int{-1, 0, 1, 2, 3} {
			if Special(space, n) != slices.Contains(strings.Fields(special[space]), n) {
				t.Errorf("Special(%d, %q)", space, n)
			}
			any := "applet caption html table td th marquee object"
			if space != api.SpaceHTML {
				any = special[space]
			}
			for scope, names := range []string{any, any + " ol ul", any + " button", "html table"} {
				if space != api.SpaceHTML {
					names = any
					if scope == ScopeTable {
						names = ""
					}
				}
				if Bounds(scope, space, n) != slices.Contains(strings.Fields(names), n) {
					t.Errorf("Bounds(%d, %d, %q)", scope, space, n)
				}
			}
			if Bounds(-1, space, n) || Bounds(4, space, n) {
				t.Errorf("Bounds of no scope: %q", n)
			}
		}
	}
}

// O2: New, Elem, Like, Len and the most nodes.
func TestMost(t *testing.T) {
	for _, most := range []int{0, -1, math.MinInt} {
		if n, e := New(most).Elem(0, "a", nil); n != 0 || e != api.ErrNodes {
			t.Errorf("New(%d): %d, %d", most, n, e)
		}
	}
	tr := New(3)
	for i := 1; i <= 2; i++ {
		if n, e := tr.Elem(api.SpaceSVG, "g", attrs("x")); n != i || e != api.OK || tr.Len() != i {
			t.Errorf("Elem: %d, %d", n, e)
		}
	}
	if n, e := tr.Like(3); n != 0 || e != api.ErrNode {
		t.Errorf("Like of none: %d, %d", n, e)
	}
	if n, e := tr.Like(1); n != 3 || e != api.OK || tr.Parent(3) != -1 {
		t.Errorf("Like: %d, %d", n, e)
	}
	if s, n, a := tr.What(3); s != api.SpaceSVG || n != "g" || !reflect.DeepEqual(a, attrs("x")) {
		t.Errorf("What: %d, %q, %v", s, n, a)
	}
	if _, e := tr.Like(1); e != api.ErrNodes {
		t.Errorf("Like beyond: %d", e)
	}
	if _, e := tr.Like(0); e != api.ErrNode {
		t.Errorf("Like of the root, beyond: %d", e)
	}
	if e := tr.Text(1, 0, "x"); e != api.ErrNodes || tr.Len() != 3 || len(tr.Kids(1)) != 0 {
		t.Errorf("Text beyond: %d", e)
	}
}

// O2, O5: a text goes on one that is there though no node more may be.
func TestTextFull(t *testing.T) {
	tr := New(2)
	tr.Elem(0, "a", nil)
	tr.Text(1, 0, "x")
	if e := tr.Text(1, 0, "y"); e != api.OK {
		t.Errorf("Text: %d", e)
	}
	if n, e := tr.Read(2); e != api.OK || n.Text != "xy" || n.Kind != api.NodeText {
		t.Errorf("Read: %+v, %d", n, e)
	}
}

// O3: the examples.
func TestExamples(t *testing.T) {
	tr := three()
	if tr.Put(0, 0, 1) != api.OK || tr.Put(1, 0, 2) != api.OK || tr.Put(1, 2, 3) != api.OK || !reflect.DeepEqual(tr.Kids(1), []int{3, 2}) {
		t.Errorf("Put: %v", tr.Kids(1))
	}
	if tr.Text(1, 2, "x") != api.OK || tr.Text(1, 2, "y") != api.OK || !reflect.DeepEqual(tr.Kids(1), []int{3, 4, 2}) || tr.Len() != 4 {
		t.Errorf("Text: %v", tr.Kids(1))
	}
	if tr.Put(2, 0, 1) != api.ErrNode || tr.Put(1, 9, 2) != api.ErrNode || tr.Move(1, 2) != api.ErrNode {
		t.Errorf("ErrNode")
	}
	if tr.Take(3) != api.OK || tr.Parent(3) != -1 || tr.Parent(2) != 1 || tr.Parent(1) != 0 {
		t.Errorf("Take, Parent")
	}
	want := api.Node{Kind: api.NodeElem, Name: "a", Kids: []api.Node{{Kind: api.NodeText, Text: "xy"}, {Kind: api.NodeElem, Name: "b"}}}
	if n, e := tr.Read(1); e != api.OK || !reflect.DeepEqual(n, want) {
		t.Errorf("Read: %+v", n)
	}
}

// O3: numbers that may not be; nothing changes then.
func TestErrNode(t *testing.T) {
	tr := three()
	tr.Put(0, 0, 1)
	tr.Put(1, 0, 2)
	tr.Text(1, 0, "x") // 4
	for i, e := range []api.Errno{
		tr.Put(4, 0, 3), tr.Put(5, 0, 3), tr.Put(-1, 0, 3), tr.Put(0, 0, 0), tr.Put(1, 0, 0), tr.Put(1, 0, 5), tr.Put(1, 0, -1), tr.Put(1, 3, 4), tr.Put(1, 2, 2), tr.Put(0, 2, 3), tr.Put(1, -1, 3), tr.Put(1, 0, 1), tr.Put(2, 0, 1), tr.Put(math.MaxInt, 0, 1), tr.Put(1, math.MinInt, 3),
		tr.Text(4, 0, "x"), tr.Text(-1, 0, "x"), tr.Text(9, 0, ""), tr.Text(1, 3, "x"), tr.Text(1, 1, ""), tr.Text(1, -2, "x"),
		tr.Move(4, 1), tr.Move(1, 4), tr.Move(1, 1), tr.Move(1, 2), tr.Move(0, 0), tr.Move(0, 2), tr.Move(-1, 1), tr.Move(1, 9),
		tr.Take(0), tr.Take(-1), tr.Take(5), tr.Take(math.MaxInt),
	} {
		if e != api.ErrNode {
			t.Errorf("call %d: %d", i, e)
		}
	}
	if !reflect.DeepEqual(tr.Kids(1), []int{2, 4}) || !reflect.DeepEqual(tr.Kids(0), []int{1}) || tr.Parent(3) != -1 || tr.Len() != 4 {
		t.Errorf("something has changed")
	}
	for _, n := range []int{-1, 0, 5, math.MaxInt} {
		if _, e := tr.Read(n); e != api.ErrNode {
			t.Errorf("Read(%d): %d", n, e)
		}
		if tr.Parent(n) != -1 || tr.Is(n) {
			t.Errorf("Parent, Is of %d", n)
		}
		if s, name, a := tr.What(n); s != 0 || name != "" || len(a) != 0 {
			t.Errorf("What of %d", n)
		}
	}
	if tr.Is(4) || len(tr.Kids(4)) != 0 || len(tr.Kids(-1)) != 0 || len(tr.Kids(99)) != 0 || !tr.Is(3) {
		t.Errorf("Is, Kids of a text")
	}
	if s, name, _ := tr.What(4); s != 0 || name != "" {
		t.Errorf("What of a text")
	}
}

// O3: what Put, Move and Take do.
func TestMoves(t *testing.T) {
	tr := three()
	tr.Put(0, 0, 1)
	tr.Put(0, 1, 2)
	tr.Put(0, 0, 2)
	if !reflect.DeepEqual(tr.Kids(0), []int{1, 2}) {
		t.Errorf("Put within the root: %v", tr.Kids(0))
	}
	if tr.Text(1, 0, "") != api.OK || tr.Len() != 3 {
		t.Errorf("Text of nothing makes a node")
	}
	tr.Text(1, 0, "x") // 4
	tr.Text(2, 0, "y") // 5
	if tr.Move(1, 2) != api.OK || !reflect.DeepEqual(tr.Kids(2), []int{5, 4}) || len(tr.Kids(1)) != 0 || tr.Parent(4) != 2 {
		t.Errorf("Move: %v", tr.Kids(2))
	}
	if n, _ := tr.Read(2); len(n.Kids) != 2 {
		t.Errorf("texts side by side: %+v", n)
	}
	if tr.Put(2, 5, 4) != api.OK || tr.Put(2, 0, 4) != api.OK || !reflect.DeepEqual(tr.Kids(2), []int{5, 4}) {
		t.Errorf("Put of a text: %v", tr.Kids(2))
	}
	if tr.Move(0, 3) != api.OK || !reflect.DeepEqual(tr.Kids(3), []int{1, 2}) || len(tr.Kids(0)) != 0 {
		t.Errorf("Move out of the root: %v", tr.Kids(3))
	}
	if tr.Move(3, 0) != api.OK || !reflect.DeepEqual(tr.Kids(0), []int{1, 2}) || tr.Take(3) != api.OK {
		t.Errorf("Move into the root: %v", tr.Kids(0))
	}
	tr.Text(0, 2, "z") // 6
	if !reflect.DeepEqual(tr.Kids(0), []int{1, 6, 2}) || tr.Text(0, 2, "z") != api.OK || tr.Len() != 6 {
		t.Errorf("Text in the root: %v", tr.Kids(0))
	}
	if tr.Text(0, 1, "q") != api.OK || !reflect.DeepEqual(tr.Kids(0), []int{7, 1, 6, 2}) {
		t.Errorf("Text ahead of all: %v", tr.Kids(0))
	}
}

// R5: nothing is shared.
func TestShares(t *testing.T) {
	tr := New(9)
	a := attrs("x")
	tr.Elem(0, "a", a)
	a[0].Name = "changed"
	tr.Like(1)
	_, _, w := tr.What(1)
	w[0].Name = "changed"
	tr.Put(1, 0, 2)
	k := tr.Kids(1)
	k[0] = 9
	n, _ := tr.Read(1)
	n.Attrs[0].Name, n.Kids[0].Attrs[0].Name = "changed", "changed"
	for i := 1; i <= 2; i++ {
		if _, _, w := tr.What(i); w[0].Name != "x" {
			t.Errorf("element %d shares memory", i)
		}
	}
	if tr.Kids(1)[0] != 2 {
		t.Errorf("Kids share memory")
	}
	s := tr.Stack()
	s.Push(1)
	s.Push(2)
	all := s.All()
	all[0] = 7
	_ = append(all[:1], 8)
	if !reflect.DeepEqual(s.All(), []int{1, 2}) {
		t.Errorf("All shares memory")
	}
}

// O5: the open elements.
func TestStack(t *testing.T) {
	s := three().Stack()
	if s.Pop() != 0 || s.Top() != 0 || len(s.All()) != 0 || s.Find(0) != -1 {
		t.Errorf("none are open")
	}
	for _, n := range []int{1, 2, 1, -7, 3} {
		s.Push(n)
	}
	if s.Top() != 3 || s.Find(1) != 2 || s.Find(2) != 1 || s.Find(9) != -1 || s.Find(-7) != 3 {
		t.Errorf("Find")
	}
	s.Remove(1)
	s.Remove(9)
	s.Swap(9, 4)
	s.Insert(9, 4)
	if !reflect.DeepEqual(s.All(), []int{1, 2, -7, 3}) {
		t.Errorf("Remove: %v", s.All())
	}
	s.Push(1)
	s.Swap(1, 5)
	s.Insert(2, 6)
	s.Insert(5, 7)
	if !reflect.DeepEqual(s.All(), []int{1, 2, 6, -7, 3, 5, 7}) || s.Pop() != 7 || s.Top() != 5 {
		t.Errorf("Swap, Insert: %v", s.All())
	}
}

// O5: the lowest one, too, is found, taken, swapped, and has others above it.
func TestStackLowest(t *testing.T) {
	s := three().Stack()
	s.Push(1)
	if s.Find(1) != 0 {
		t.Errorf("Find: %d", s.Find(1))
	}
	s.Insert(1, 3)
	s.Swap(1, 2)
	if !reflect.DeepEqual(s.All(), []int{2, 3}) {
		t.Errorf("Insert, Swap: %v", s.All())
	}
	s.Remove(2)
	if !reflect.DeepEqual(s.All(), []int{3}) || !s.Has(ScopeAny, "c") || !s.HasNode(3) {
		t.Errorf("Remove, Has: %v", s.All())
	}
	s.Until("c")
	if len(s.All()) != 0 {
		t.Errorf("Until: %v", s.All())
	}
}

// pile opens new elements: names, those of another space as svg:name or math:name.
func pile(names ...string) (*Tree, *Stack) {
	t := New(99)
	s := t.Stack()
	for _, n := range names {
		space := api.SpaceHTML
		if rest, ok := strings.CutPrefix(n, "svg:"); ok {
			space, n = api.SpaceSVG, rest
		} else if rest, ok := strings.CutPrefix(n, "math:"); ok {
			space, n = api.SpaceMath, rest
		}
		i, _ := t.Elem(space, n, nil)
		s.Push(i)
	}
	return t, s
}

// O6: Has and HasNode.
func TestHas(t *testing.T) {
	_, s := pile("table", "tr", "p")
	if !s.Has(ScopeAny, "p") || s.Has(ScopeAny, "div") || !s.Has(ScopeTable, "tr") || s.Has(ScopeAny) || !s.Has(ScopeAny, "x", "table") {
		t.Errorf("the example")
	}
	for _, a := range []struct {
		open  string
		scope int
		name  string
		has   bool
	}{
		{"p table", ScopeAny, "p", false}, {"p table", ScopeAny, "table", true}, {"p table", 9, "p", true}, {"p ul", ScopeAny, "p", true}, {"p ul", ScopeList, "p", false}, {"p button", ScopeButton, "p", false}, {"p button", ScopeList, "p", true}, {"p td", ScopeTable, "p", true}, {"p html", ScopeTable, "p", false},
		{"p svg:title", ScopeAny, "p", false}, {"p svg:title", ScopeTable, "p", true}, {"p svg:p", ScopeAny, "p", true}, {"svg:p", ScopeAny, "p", false}, {"p math:mi", ScopeButton, "p", false}, {"p svg:table", ScopeAny, "p", true}, {"svg:table p", ScopeTable, "table", false}, {"", ScopeAny, "p", false},
	} {
		_, s := pile(strings.Fields(a.open)...)
		if s.Has(a.scope, a.name) != a.has {
			t.Errorf("%q has %q by %d: not %v", a.open, a.name, a.scope, a.has)
		}
	}
	_, s = pile("p", "table", "b")
	if !s.HasNode(3) || !s.HasNode(2) || s.HasNode(1) || s.HasNode(9) {
		t.Errorf("HasNode")
	}
	s.Push(-3)
	s.Push(77)
	if !s.HasNode(77) || !s.HasNode(-3) || !s.HasNode(2) || !s.Has(ScopeAny, "b") || s.Has(ScopeAny, "") {
		t.Errorf("numbers that are none")
	}
}

// O6: Until, Clear, Imply.
func TestClose(t *testing.T) {
	for _, a := range []struct {
		open string
		do   func(s *Stack)
		left int
	}{
		{"table tr p", func(s *Stack) { s.Imply("p") }, 3}, {"table tr p", func(s *Stack) { s.Imply("") }, 2}, {"html dd dt li optgroup option p rb rp rt rtc", func(s *Stack) { s.Imply("") }, 1}, {"html li p dd", func(s *Stack) { s.Imply("li") }, 2}, {"li svg:p p", func(s *Stack) { s.Imply("x") }, 2}, {"p", func(s *Stack) { s.Imply("") }, 0}, {"", func(s *Stack) { s.Imply("") }, 0},
		{"a b c b d", func(s *Stack) { s.Until("b") }, 3}, {"a b c b d", func(s *Stack) { s.Until("x", "a") }, 0}, {"a b c", func(s *Stack) { s.Until("x") }, 0}, {"a svg:a c", func(s *Stack) { s.Until("a") }, 0}, {"a b", func(s *Stack) { s.Until() }, 0},
		{"a b c b d", func(s *Stack) { s.Clear("b") }, 4}, {"a b c", func(s *Stack) { s.Clear("c", "a") }, 3}, {"a b c", func(s *Stack) { s.Clear("x") }, 0}, {"a svg:b c", func(s *Stack) { s.Clear("b") }, 0}, {"a b", func(s *Stack) { s.Clear() }, 0},
	} {
		_, s := pile(strings.Fields(a.open)...)
		a.do(s)
		if len(s.All()) != a.left {
			t.Errorf("%q: %d are left, not %d", a.open, len(s.All()), a.left)
		}
	}
	_, s := pile("p")
	s.Push(0)
	s.Push(99)
	s.Imply("")
	if len(s.All()) != 3 {
		t.Errorf("Imply of a number that is none")
	}
	s.Clear("p")
	if len(s.All()) != 1 {
		t.Errorf("Clear of numbers that are none")
	}
}

// count is how many nodes there are, and checks each one's place.
func count(n api.Node) int {
	c := 1
	for _, k := range n.Kids {
		c += count(k)
	}
	return c
}

// O7: whatever is called, each node is in one thing at most, once, and none below itself.
func TestFollows(t *testing.T) {
	rnd := rand.New(rand.NewSource(14))
	for round := 0; round < 300; round++ {
		tr := New(12)
		num := func() int { return rnd.Intn(15) - 1 }
		for i := 0; i < 60; i++ {
			switch rnd.Intn(7) {
			case 0:
				tr.Elem(0, "a", nil)
			case 1:
				tr.Like(num())
			case 2, 3:
				tr.Put(num(), num()*rnd.Intn(2), num())
			case 4:
				tr.Text(num(), num()*rnd.Intn(2), "x")
			case 5:
				tr.Move(num(), num())
			case 6:
				tr.Take(num())
			}
			check(t, tr)
		}
	}
}

func check(t *testing.T, tr *Tree) {
	t.Helper()
	in := map[int]int{}
	for p := 0; p <= tr.Len(); p++ {
		for _, k := range tr.Kids(p) {
			if _, twice := in[k]; twice || tr.Parent(k) != p {
				t.Fatalf("node %d is in %d and %d", k, in[k], p)
			}
			in[k] = p
		}
	}
	for n := 1; n <= tr.Len(); n++ {
		if _, ok := in[n]; ok != (tr.Parent(n) >= 0) {
			t.Fatalf("node %d", n)
		}
		below := 1
		for m := 1; m <= tr.Len(); m++ {
			steps, at := 0, m
			for at > 0 && (at != n || steps == 0) && steps < 99 {
				at = tr.Parent(at)
				steps++
			}
			if steps == 99 || at == n && m == n {
				t.Fatalf("node %d is below itself", m)
			}
			if at == n {
				below++
			}
		}
		if r, e := tr.Read(n); e != api.OK || count(r) != below {
			t.Fatalf("Read(%d): %d nodes, not %d", n, count(r), below)
		}
	}
}
