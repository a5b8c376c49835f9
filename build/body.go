package build

import (
	"slices"

	"colander/api"
	"colander/open"
)

// named tells whether an element is one of the page's own with one of the names.
func (b *Builder) named(node int, names ...string) bool {
	space, name, _ := b.tree.What(node)
	return b.tree.Is(node) && space == api.SpaceHTML && slices.Contains(names, name)
}

func (b *Builder) body(m *api.Mark) bool {
	switch m.Kind {
	case api.MarkText:
		b.bodyText(m.Text)
	case api.MarkStart:
		b.bodyStart(m)
	case api.MarkEnd:
		return b.bodyEnd(m)
	}
	return false
}

func (b *Builder) bodyText(s string) {
	b.list.Restore()
	b.list.Text(s)
}

// endP ends a p, if one is in button scope.
func (b *Builder) endP() {
	if b.stack.Has(open.ScopeButton, "p") {
		b.stack.Imply("p")
		b.stack.Until("p")
	}
}

// close closes what ends of itself, and all up to the first one of the names.
func (b *Builder) close(names ...string) {
	b.stack.Imply("")
	b.stack.Until(names...)
}

// bodyStart does a start that opens or closes other elements; the rest is ordinary.
func (b *Builder) bodyStart(m *api.Mark) {
	name := m.Name
	switch {
	case part(name), start(m, "html", "body", "frameset", "frame", "head"):
	case b.headLine(m):
	case name == "li":
		b.item(m, "li")
	case name == "dd", name == "dt":
		b.item(m, "dd", "dt")
	case block(name), heading(name), name == "pre", name == "listing":
		b.endP()
		if heading(name) && b.at(headings()...) {
			b.stack.Pop()
		}
		b.insert(m)
		b.drop = name == "pre" || name == "listing"
	case name == "table":
		b.endP()
		b.insert(m)
		b.mode = inTable
	case name == "hr":
		b.endP()
		b.single(m)
	case name == "a", name == "nobr", formed(name):
		b.formedStart(m)
	case name == "param", name == "source", name == "track":
		b.single(m)
	case name == "textarea":
		b.insertText(m, api.ModeRefs)
		b.drop = true
	case name == "iframe", name == "noembed":
		b.insertText(m, api.ModeRaw)
	default:
		b.ordinaryStart(m)
	}
}

// item starts an item, which ends the one of these names that is open around it.
func (b *Builder) item(m *api.Mark, names ...string) {
	all := b.stack.All()
	for i := len(all) - 1; i >= 0; i-- {
		space, name, _ := b.tree.What(all[i])
		if space == api.SpaceHTML && slices.Contains(names, name) {
			b.stack.Imply(name)
			b.stack.Until(name)
			break
		}
		if open.Special(space, name) && name != "address" && name != "div" && name != "p" {
			break
		}
	}
	b.endP()
	b.insert(m)
}

// formedStart starts an element that is formed again.
func (b *Builder) formedStart(m *api.Mark) {
	switch m.Name {
	case "a":
		if old := b.list.Find("a"); old != 0 {
			b.list.Adopt("a")
			b.list.Remove(old)
			b.stack.Remove(old)
		}
	case "nobr":
		b.list.Restore()
		if b.stack.Has(open.ScopeAny, "nobr") {
			b.list.Adopt("nobr")
		}
	}
	b.list.Restore()
	n, _ := b.list.Insert(api.SpaceHTML, m.Name, m.Attrs)
	b.list.Push(n)
}

// ordinaryStart starts an element behind which others are formed again first.
func (b *Builder) ordinaryStart(m *api.Mark) {
	switch {
	case m.Name == "xmp":
		b.endP()
	case m.Name == "button" && b.stack.Has(open.ScopeAny, "button"):
		b.close("button")
	case start(m, "option", "optgroup") && b.at("option"):
		b.stack.Pop()
	}
	b.list.Restore()
	if space, ok := b.spaces[m.Name]; ok {
		b.insertForeign(space, m)
		return
	}
	switch m.Name {
	case "xmp":
		b.insertText(m, api.ModeRaw)
	case "image":
		b.list.Insert(api.SpaceHTML, "img", m.Attrs)
		b.stack.Pop()
	case "area", "br", "embed", "img", "input", "keygen", "wbr":
		b.single(m)
	case "applet", "marquee", "object":
		b.insert(m)
		b.list.Mark()
	default:
		b.insert(m)
	}
}

func (b *Builder) bodyEnd(m *api.Mark) bool {
	name := m.Name
	switch {
	case name == "body", name == "html":
		if b.stack.Has(open.ScopeAny, "body") {
			b.mode = inAfter
			return name == "html"
		}
	case name == "p":
		if !b.stack.Has(open.ScopeButton, "p") {
			b.plain("p")
		}
		b.endP()
	case block(name), name == "button", name == "listing", name == "pre":
		b.closeIn(open.ScopeAny, "", name)
	case name == "li":
		b.closeIn(open.ScopeList, name, name)
	case name == "dd", name == "dt":
		b.closeIn(open.ScopeAny, name, name)
	case heading(name):
		b.closeIn(open.ScopeAny, "", headings()...)
	case name == "a", name == "nobr", formed(name):
		if ok, _ := b.list.Adopt(name); !ok {
			b.otherEnd(name)
		}
	case name == "applet", name == "marquee", name == "object":
		if b.closeIn(open.ScopeAny, "", name) {
			b.list.Clear()
		}
	case name == "br":
		b.list.Restore()
		b.plain("br")
		b.stack.Pop()
	default:
		b.otherEnd(name)
	}
	return false
}

// closeIn closes one of the names, if one is in scope: was it?
func (b *Builder) closeIn(scope int, but string, names ...string) bool {
	if !b.stack.Has(scope, names...) {
		return false
	}
	b.stack.Imply(but)
	b.stack.Until(names...)
	return true
}

// otherEnd ends the first element of the name, unless a special one stands in it.
func (b *Builder) otherEnd(name string) {
	if name == "" {
		return
	}
	all := b.stack.All()
	for i := len(all) - 1; i >= 0; i-- {
		space, n, _ := b.tree.What(all[i])
		if space == api.SpaceHTML && n == name {
			b.stack.Imply(name)
			b.closeTo(i)
			return
		}
		if open.Special(space, n) {
			return
		}
	}
}
