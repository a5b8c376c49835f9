package format

import (
	"math/rand"
	"reflect"
	"strings"
	"testing"

	"colander/api"
	"colander/open"
)

// world is a tree, its open elements and a list, with elements by names of their own.
type world struct {
	t *open.Tree
	s *open.Stack
	l *List
}

func begin(most int) *world {
	t := open.New(most)
	s := t.Stack()
	return &world{t, s, New(t, s)}
}

// nest opens elements, each in the one ahead; * behind a name makes it an entry, too.
func nest(names string) *world {
	w := begin(200)
	for _, n := range strings.Fields(names) {
		name, entry := strings.CutSuffix(n, "*")
		i, _ := w.l.Insert(api.SpaceHTML, name, nil)
		if entry {
			w.l.Push(i)
		}
	}
	return w
}

// show writes what is in a node.
func (w *world) show(node int) string {
	var b strings.Builder
	for _, k := range w.t.Kids(node) {
		n, _ := w.t.Read(k)
		if n.Kind == api.NodeText {
			b.WriteString(n.Text)
			continue
		}
		b.WriteString("<" + n.Name + ">" + w.show(k) + "</" + n.Name + ">")
	}
	return b.String()
}

// names are elements' names, a marker as |.
func (w *world) names(l []int) string {
	var b []string
	for _, n := range l {
		_, name, _ := w.t.What(n)
		if n == Marker {
			name = "|"
		}
		b = append(b, name)
	}
	return strings.Join(b, " ")
}

func (w *world) check(t *testing.T, what, tree, stack, entries string) {
	t.Helper()
	if s := w.show(0); s != tree {
		t.Errorf("%s: the tree is %s; not %s", what, s, tree)
	}
	if s := w.names(w.s.All()); s != stack {
		t.Errorf("%s: open are %s; not %s", what, s, stack)
	}
	if s := w.names(w.l.All()); s != entries {
		t.Errorf("%s: the entries are %s; not %s", what, s, entries)
	}
}

func example() *world {
	w := nest("body b* p")
	w.l.Text("x")
	return w
}

// The document's examples.
func TestExamples(t *testing.T) {
	w := example()
	if ok, e := w.l.Adopt("b"); !ok || e != api.OK {
		t.Errorf("Adopt(b): %v, %d", ok, e)
	}
	w.check(t, "Adopt(b)", "<body><b></b><p><b>x</b></p></body>", "body p", "")
	w = example()
	if ok, e := w.l.Adopt("i"); ok || e != api.OK {
		t.Errorf("Adopt(i): %v, %d", ok, e)
	}
	w.check(t, "Adopt(i)", "<body><b><p>x</p></b></body>", "body b p", "b")
	w.s.Pop()
	w.s.Pop()
	if e := w.l.Restore(); e != api.OK {
		t.Errorf("Restore: %d", e)
	}
	w.check(t, "Restore", "<body><b><p>x</p></b><b></b></body>", "body b", "b")
	if w.l.All()[0] != w.s.Top() {
		t.Errorf("Restore: the entry is the old one")
	}
	w = nest("body table")
	w.l.Foster(true)
	if e := w.l.Text("y"); e != api.OK {
		t.Errorf("Text: %d", e)
	}
	w.check(t, "Foster", "<body>y<table></table></body>", "body table", "")
}

// M1: entries, markers, Find, Remove, Clear.
func TestEntries(t *testing.T) {
	w := nest("a* b* c")
	if len(begin(1).l.All()) != 0 || w.l.Find("c") != 0 || w.l.Find("b") != 2 {
		t.Errorf("Find")
	}
	w.l.Mark()
	if w.l.Find("b") != 0 {
		t.Errorf("Find beyond a marker")
	}
	d, _ := w.l.Insert(api.SpaceSVG, "b", nil)
	w.l.Push(d)
	if w.l.Find("b") != 0 || w.l.Find("") != 0 {
		t.Errorf("Find of another space")
	}
	w.l.Push(3)
	w.l.Push(1)
	w.l.Push(3)
	if w.l.Remove(3); !reflect.DeepEqual(w.l.All(), []int{1, 2, Marker, d, 3, 1}) {
		t.Errorf("Remove: %v", w.l.All())
	}
	if w.l.Remove(77); w.l.Find("a") != 1 || w.l.Find("c") != 3 {
		t.Errorf("Remove of none")
	}
	w.l.All()[0] = 9
	if w.l.Clear(); !reflect.DeepEqual(w.l.All(), []int{1, 2}) {
		t.Errorf("Clear: %v", w.l.All())
	}
	if w.l.Clear(); len(w.l.All()) != 0 {
		t.Errorf("Clear without a marker: %v", w.l.All())
	}
	w.l.Clear()
	w.l.Mark()
	w.l.Mark()
	if w.l.Clear(); !reflect.DeepEqual(w.l.All(), []int{Marker}) {
		t.Errorf("Clear of a marker: %v", w.l.All())
	}
}

// M1: of like elements three stay; the first one goes.
func TestPushLike(t *testing.T) {
	w := begin(99)
	make := func(space int, name string, attrs ...string) int {
		var l []api.Attr
		for _, a := range attrs {
			n, v, _ := strings.Cut(a, "=")
			l = append(l, api.Attr{Name: n, Value: v})
		}
		i, _ := w.t.Elem(space, name, l)
		return i
	}
	first := make(0, "b", "x=1", "y=2")
	w.l.Push(first)
	others := []int{make(0, "b"), make(0, "i", "x=1", "y=2"), make(1, "b", "x=1", "y=2"), make(0, "b", "x=1", "y=3"), make(0, "b", "x=1", "z=2"), make(0, "b", "x=1"), make(0, "b", "x=1", "y=2", "z=3")}
	for _, n := range others {
		w.l.Push(n)
	}
	second, third := make(0, "b", "y=2", "x=1"), make(0, "b", "x=1", "y=2")
	w.l.Push(second)
	w.l.Push(third)
	if len(w.l.All()) != 10 {
		t.Errorf("three stay: %v", w.l.All())
	}
	fourth := make(0, "b", "x=1", "y=2")
	w.l.Push(fourth)
	if want := append(append([]int{}, others...), second, third, fourth); !reflect.DeepEqual(w.l.All(), want) {
		t.Errorf("the first one goes: %v", w.l.All())
	}
	w.l.Mark()
	w.l.Push(make(0, "b", "x=1", "y=2"))
	if len(w.l.All()) != 12 {
		t.Errorf("those beyond a marker don't count: %v", w.l.All())
	}
}

// M1: the place.
func TestPlace(t *testing.T) {
	at := func(w *world, target, parent, before int) {
		t.Helper()
		if p, b := w.l.Place(target); p != parent || b != before {
			t.Errorf("Place(%d): %d, %d; not %d, %d", target, p, b, parent, before)
		}
	}
	w := begin(9)
	at(w, 0, 0, 0)
	at(w, 5, 0, 0)
	w = nest("html body table tbody tr td") // 1 to 6
	at(w, 0, 6, 0)
	at(w, 3, 3, 0)
	w.l.Foster(true)
	at(w, 0, 6, 0)
	for _, target := range []int{3, 4, 5} {
		at(w, target, 2, 3)
	}
	at(w, 2, 2, 0)
	w.t.Take(3)
	at(w, 4, 2, 0)
	w.t.Put(0, 0, 3)
	at(w, 4, 0, 3)
	w.l.Foster(false)
	at(w, 4, 4, 0)
	w = nest("html tr") // 1, 2
	w.l.Foster(true)
	at(w, 0, 1, 0)
	w = nest("table tbody") // 1, 2
	w.l.Foster(true)
	at(w, 0, 0, 1)
	w.t.Take(1)
	at(w, 0, 0, 0)
	w = begin(9)
	n, _ := w.l.Insert(api.SpaceSVG, "table", nil)
	w.l.Foster(true)
	at(w, 0, n, 0)
	w = nest("a table thead tfoot table tr") // the highest table is 5
	w.l.Foster(true)
	at(w, 3, 4, 5)
	at(w, 4, 4, 5)
	w.s.Push(77)
	at(w, 0, 77, 0)
}

// M2: Insert and Text, and too many nodes.
func TestInsert(t *testing.T) {
	w := begin(2)
	if n, e := w.l.Insert(api.SpaceMath, "mi", []api.Attr{{Name: "a", Value: "b"}}); n != 1 || e != api.OK || w.s.Top() != 1 || w.t.Parent(1) != 0 {
		t.Errorf("Insert: %d, %d", n, e)
	}
	if s, n, a := w.t.What(1); s != api.SpaceMath || n != "mi" || len(a) != 1 {
		t.Errorf("Insert: %d, %q, %v", s, n, a)
	}
	w.l.Text("x")
	if n, e := w.l.Insert(0, "b", nil); n != 0 || e != api.ErrNodes || w.s.Top() != 1 {
		t.Errorf("Insert beyond: %d, %d", n, e)
	}
	if e := w.l.Text("y"); e != api.OK || w.show(0) != "<mi>xy</mi>" {
		t.Errorf("Text: %d, %s", e, w.show(0))
	}
	w.s.Pop()
	if e := w.l.Text("z"); e != api.ErrNodes {
		t.Errorf("Text beyond: %d", e)
	}
}

// M3: Restore.
func TestRestore(t *testing.T) {
	w := nest("body a* b* i*")
	w.l.Restore()
	w.check(t, "all are open", "<body><a><b><i></i></b></a></body>", "body a b i", "a b i")
	w.s.Pop()
	w.s.Pop()
	w.l.Restore()
	w.check(t, "two are cut off", "<body><a><b><i></i></b><b><i></i></b></a></body>", "body a b i", "a b i")
	w.s.Clear("body")
	w.l.Mark()
	w.l.Restore()
	w.check(t, "a marker is last", "<body><a><b><i></i></b><b><i></i></b></a></body>", "body", "a b i |")
	u, _ := w.l.Insert(0, "u", nil)
	w.l.Push(u)
	w.s.Pop()
	w.l.Restore()
	w.check(t, "behind a marker", "<body><a><b><i></i></b><b><i></i></b></a><u></u><u></u></body>", "body u", "a b i | u")
	w = nest("b* i*")
	w.s.Pop()
	w.l.Restore()
	w.check(t, "the lowest one is open", "<b><i></i><i></i></b>", "b i", "b i")
	w = begin(0)
	if e := w.l.Restore(); e != api.OK {
		t.Errorf("Restore of nothing: %d", e)
	}
	w = begin(5)
	for _, n := range []string{"body", "b", "i"} {
		k, _ := w.l.Insert(0, n, nil)
		if n != "body" {
			w.l.Push(k)
		}
	}
	w.s.Clear("body")
	w.l.Text("x")
	if e := w.l.Restore(); e != api.ErrNodes {
		t.Errorf("Restore beyond: %d", e)
	}
	w.check(t, "Restore beyond", "<body><b><i></i></b>x<b></b></body>", "body b", "b i")
	if w.l.All()[0] != 5 || w.l.All()[1] != 3 {
		t.Errorf("Restore beyond: %v", w.l.All())
	}
}

// M4: Adopt, line by line.
func TestAdopt(t *testing.T) {
	for _, a := range []struct {
		names, name          string
		text                 bool
		ok                   bool
		tree, stack, entries string
	}{
		{"body b", "b", false, true, "<body><b></b></body>", "body", ""},
		{"body b i", "b", false, false, "<body><b><i></i></b></body>", "body b i", ""},
		{"body b* i*", "b", true, true, "<body><b><i>x</i></b></body>", "body", "i"},
		{"body b* table", "b", false, true, "<body><b><table></table></b></body>", "body b table", "b"},
		{"body b* i* p", "b", true, true, "<body><b><i></i></b><i><p><b>x</b></p></i></body>", "body i p", "i"},
		{"body b* i p", "b", true, true, "<body><b><i></i></b><p><b>x</b></p></body>", "body p", ""},
		{"body b* p div", "b", true, true, "<body><b></b><p><b></b><div><b>x</b></div></p></body>", "body p div", ""},
		{"body b* i* u* s* em* p", "b", true, true, "<body><b><i><u><s><em></em></s></u></i></b><u><s><em><p><b>x</b></p></em></s></u></body>", "body u s em p", "u s em"},
		{"b* p", "b", true, true, "<b></b><p><b>x</b></p>", "p", ""},
	} {
		w := nest(a.names)
		if a.text {
			w.l.Text("x")
		}
		ok, e := w.l.Adopt(a.name)
		if ok != a.ok || e != api.OK {
			t.Errorf("Adopt(%q) of %s: %v, %d", a.name, a.names, ok, e)
		}
		w.check(t, "Adopt of "+a.names, a.tree, a.stack, a.entries)
	}
	w := nest("body b* p")
	w.s.Remove(2)
	if ok, e := w.l.Adopt("b"); !ok || e != api.OK {
		t.Errorf("Adopt of one that is not open: %v, %d", ok, e)
	}
	w.check(t, "not open", "<body><b><p></p></b></body>", "body p", "")
}

// M4: which numbers stand where behind a first round; the second one can't make its element any more, so what the first one made is to be seen.
func TestAdoptNumbers(t *testing.T) {
	for _, a := range []struct {
		names          string // open, each in the one ahead, numbered from 1 on
		push           []int
		most           int
		entries, stack []int
		tree           string
	}{
		{"body b i p p", []int{2, 3}, 7, []int{6, 7}, []int{1, 6, 4, 7, 5}, "<body><b><i></i></b><i><p><b></b><p></p></p></i></body>"},
		{"body b p i p", []int{2, 4}, 6, []int{6, 4}, []int{1, 3, 6, 4, 5}, "<body><b></b><p><b><i><p></p></i></b></p></body>"},
		{"body b s i u em p p", []int{3, 2, 4, 5, 6}, 12, []int{11, 10, 9, 12}, []int{1, 11, 10, 9, 7, 12, 8}, "<body><b><s><i><u><em></em></u></i></s></b><i><u><em><p><b></b><p></p></p></em></u></i></body>"},
		{"body b s i u em p p", []int{2, 6, 3, 4, 5}, 12, []int{9, 12, 11, 10}, []int{1, 11, 10, 9, 7, 12, 8}, "<body><b><s><i><u><em></em></u></i></s></b><i><u><em><p><b></b><p></p></p></em></u></i></body>"},
		{"body b s i u em p p", []int{3, 2, 4, 5, 6, 1}, 12, []int{11, 10, 9, 12, 1}, []int{1, 11, 10, 9, 7, 12, 8}, "<body><b><s><i><u><em></em></u></i></s></b><i><u><em><p><b></b><p></p></p></em></u></i></body>"},
		{"body b i u p p", []int{4, 3, 2}, 9, []int{7, 9, 8}, []int{1, 8, 7, 5, 9, 6}, "<body><b><i><u></u></i></b><i><u><p><b></b><p></p></p></u></i></body>"},
	} {
		w := begin(a.most)
		for _, n := range strings.Fields(a.names) {
			w.l.Insert(api.SpaceHTML, n, nil)
		}
		for _, n := range a.push {
			w.l.Push(n)
		}
		if ok, e := w.l.Adopt("b"); ok || e != api.ErrNodes {
			t.Errorf("%s: %v, %d", a.names, ok, e)
		}
		if !reflect.DeepEqual(w.l.All(), a.entries) || !reflect.DeepEqual(w.s.All(), a.stack) || w.show(0) != a.tree {
			t.Errorf("%s: entries %v, open %v, %s", a.names, w.l.All(), w.s.All(), w.show(0))
		}
	}
}

// M4: eight rounds at most.
func TestAdoptEight(t *testing.T) {
	w := nest("body b* p p p p p p p p p p")
	if ok, e := w.l.Adopt("b"); !ok || e != api.OK {
		t.Errorf("Adopt: %v, %d", ok, e)
	}
	w.check(t, "ten blocks", "<body><b></b>"+strings.Repeat("<p><b></b>", 7)+"<p><b><p><p></p></p></b></p>"+strings.Repeat("</p>", 7)+"</body>", "body p p p p p p p p b p p", "b")
}

// M4: with fostering the place is ahead of the table.
func TestAdoptFoster(t *testing.T) {
	w := nest("body table")
	w.l.Foster(true)
	b, _ := w.l.Insert(0, "b", nil)
	w.l.Push(b)
	w.l.Insert(0, "p", nil)
	w.l.Text("x")
	if ok, e := w.l.Adopt("b"); !ok || e != api.OK {
		t.Errorf("Adopt: %v, %d", ok, e)
	}
	w.check(t, "fostered", "<body><b></b><p><b>x</b></p><table></table></body>", "body table p", "")
}

// M4: no more nodes.
func TestAdoptBeyond(t *testing.T) {
	w := begin(4)
	for _, n := range []string{"body", "b", "i", "p"} {
		k, _ := w.l.Insert(0, n, nil)
		if n == "b" || n == "i" {
			w.l.Push(k)
		}
	}
	if ok, e := w.l.Adopt("b"); ok || e != api.ErrNodes {
		t.Errorf("Adopt: %v, %d", ok, e)
	}
	w.check(t, "beyond", "<body><b><i><p></p></i></b></body>", "body b i p", "b i")
	w = begin(3)
	for _, n := range []string{"body", "b", "p"} {
		k, _ := w.l.Insert(0, n, nil)
		if n == "b" {
			w.l.Push(k)
		}
	}
	if ok, e := w.l.Adopt("b"); ok || e != api.ErrNodes {
		t.Errorf("Adopt: %v, %d", ok, e)
	}
	w.check(t, "the last one beyond", "<body><b></b><p></p></body>", "body b p", "b")
}

// texts are the tree's texts, one behind the other.
func texts(n api.Node) string {
	s := n.Text
	for _, k := range n.Kids {
		s += texts(k)
	}
	return s
}

// M5: what follows, whatever stands open; and R1: nothing panics, whatever the numbers are.
func TestFollows(t *testing.T) {
	rnd := rand.New(rand.NewSource(15))
	names := []string{"b", "i", "p", "div", "table", "tr", "a", "li"}
	for round := 0; round < 3000; round++ {
		wild := round%2 == 1
		w := begin(60)
		w.l.Insert(0, "body", nil)
		for i := 0; i < 40; i++ {
			n := names[rnd.Intn(len(names))]
			switch rnd.Intn(9) {
			case 0, 1:
				if k, e := w.l.Insert(0, n, nil); e == api.OK && rnd.Intn(2) == 0 {
					w.l.Push(k)
					if !wild {
						three(t, w)
					}
				}
			case 2:
				w.l.Text(string(rune('a' + i%26)))
			case 3:
				if w.s.Top() != 1 {
					w.s.Pop()
				}
			case 4:
				if w.l.Restore() == api.OK {
					restored(t, w)
				}
			case 5, 6:
				before, _ := w.t.Read(1)
				_, e := w.l.Adopt(n)
				if after, _ := w.t.Read(1); !wild && e == api.OK && texts(after) != texts(before) {
					t.Fatalf("Adopt(%s) changes texts: %q, %q", n, texts(before), texts(after))
				}
			case 7:
				if rnd.Intn(5) == 0 {
					w.l.Mark()
				} else if rnd.Intn(5) == 0 {
					w.l.Clear()
				}
			case 8:
				if wild {
					w.l.Foster(rnd.Intn(2) == 0)
					w.s.Push(rnd.Intn(40) - 2)
					w.l.Push(rnd.Intn(40) - 2)
					w.l.Place(rnd.Intn(40) - 2)
					w.l.Remove(rnd.Intn(40) - 2)
				}
			}
		}
	}
}

// three checks that only Push makes entries here, and that of like ones no more than three are at hand.
func three(t *testing.T, w *world) {
	t.Helper()
	n := map[string]int{}
	for _, e := range w.l.All()[w.l.hand():] {
		if _, name, _ := w.t.What(e); w.t.Is(e) {
			n[name]++
			if n[name] > 3 {
				t.Fatalf("more than three like %s: %s", name, w.names(w.l.All()))
			}
		}
	}
}

func restored(t *testing.T, w *world) {
	t.Helper()
	all := w.l.All()
	if len(all) == 0 || all[len(all)-1] == Marker {
		return
	}
	if w.s.Find(all[len(all)-1]) < 0 {
		t.Fatalf("Restore: the last entry is not open")
	}
}
