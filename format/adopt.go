package format

import (
	"slices"

	"colander/api"
	"colander/open"
)

// How a round of Adopt went.
const (
	goesOn  = iota
	settled // all is done that there is to do
	missing // no element is to be found
)

// Adopt does an end tag of a name whose elements may be closed in the wrong order (M4).
func (l *List) Adopt(name string) (bool, api.Errno) {
	const rounds = 8
	if top := l.stack.Top(); l.named(top, name) && l.place(top) < 0 {
		l.stack.Pop()
		return true, api.OK
	}
	for i := 0; i < rounds; i++ {
		how, e := l.round(name)
		if e != api.OK {
			return false, e
		}
		if how != goesOn {
			return how == settled || i > 0, api.OK
		}
	}
	return true, api.OK
}

// round does one round, with the element that is to be closed.
func (l *List) round(name string) (int, api.Errno) {
	f := l.Find(name)
	if f == 0 {
		return missing, api.OK
	}
	if l.stack.Find(f) < 0 {
		l.Remove(f)
		return settled, api.OK
	}
	if !l.stack.HasNode(f) {
		return settled, api.OK
	}
	at := l.stack.Find(f)
	high := l.furthest(at)
	if high < 0 {
		for l.stack.Pop() != f {
		}
		l.Remove(f)
		return settled, api.OK
	}
	return goesOn, l.reorder(at, high)
}

// furthest is the place of the lowest open element above that place that is special; -1: there is none.
func (l *List) furthest(at int) int {
	stack := l.stack.All()
	for i := at + 1; i < len(stack); i++ {
		space, name, _ := l.tree.What(stack[i])
		if l.tree.Is(stack[i]) && open.Special(space, name) {
			return i
		}
	}
	return -1
}

// reorder makes anew the open element f at the one place, and what stands between it and b at the higher one, so that b need not be in f any more.
func (l *List) reorder(at, high int) api.Errno {
	stack := l.stack.All()
	f, b := stack[at], stack[high]
	last, kept, e := l.between(stack[at+1:high], f, b)
	if e != api.OK {
		return e
	}
	parent, before := 0, 0
	if at > 0 {
		parent, before = l.Place(stack[at-1])
	}
	l.tree.Put(parent, before, last)
	node, e := l.tree.Like(f)
	if e != api.OK {
		return e
	}
	l.tree.Move(b, node)
	l.tree.Put(b, 0, node)
	l.replace(f, node, kept)
	l.stack.Remove(f)
	l.stack.Insert(b, node)
	return api.OK
}

// replace takes f out of the entries, and puts the node at the place that was kept.
func (l *List) replace(f, node, kept int) {
	if i := l.place(f); i >= 0 {
		l.entries = slices.Delete(l.entries, i, i+1)
		if i < kept {
			kept--
		}
	}
	l.entries = slices.Insert(l.entries, min(kept, len(l.entries)), node)
}

// between makes the elements of the row anew, which are open between f and b, each in the one below it; it tells the lowest one, and the place that is kept among the entries.
func (l *List) between(row []int, f, b int) (int, int, api.Errno) {
	const most = 3 // so many, from b on, stay entries
	last, kept := b, l.place(f)
	for count := 1; count <= len(row); count++ {
		x := row[len(row)-count]
		i := l.place(x)
		if i >= 0 && count > most {
			l.entries = slices.Delete(l.entries, i, i+1)
			if i < kept {
				kept--
			}
			i = l.place(x)
		}
		if i < 0 {
			l.stack.Remove(x)
			continue
		}
		node, e := l.tree.Like(x)
		if e != api.OK {
			return 0, 0, e
		}
		l.entries[i] = node
		l.stack.Swap(x, node)
		if last == b {
			kept = i + 1
		}
		l.tree.Put(node, 0, last)
		last = node
	}
	return last, kept, api.OK
}
