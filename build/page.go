package build

import (
	"strings"

	"colander/api"
	"colander/foreign"
	"colander/lex"
)

const blanks = "\t\n\f\r "

// do does a mark of a kind that there is.
func (b *Builder) do(m api.Mark) {
	b.reads, b.name = api.ModeData, ""
	if b.drop && m.Kind == api.MarkText {
		m.Text = strings.TrimPrefix(m.Text, "\n")
	}
	b.drop = false
	if m.Kind == api.MarkText && m.Text == "" {
		return
	}
	if m.Kind != api.MarkText {
		b.letGo()
	}
	if m.Kind == api.MarkComment || m.Kind == api.MarkDoctype {
		return
	}
	for b.once(&m) {
	}
}

// letGo puts the text that waits.
func (b *Builder) letGo() {
	s := string(b.waits)
	b.waits = nil
	switch {
	case s == "":
	case strings.Trim(s, blanks) == "":
		b.list.Text(s)
	default:
		b.list.Foster(true)
		b.bodyText(s)
		b.list.Foster(false)
	}
}

// once does a mark, and tells whether it, or what is left of it, is to be done again.
func (b *Builder) once(m *api.Mark) bool {
	space, name, attrs := b.tree.What(b.stack.Top())
	if !foreign.Foreign(space, name, attrs, *m) {
		return b.byMode(m)
	}
	switch {
	case m.Kind == api.MarkText:
		b.list.Text(m.Text)
	case foreign.Breaks(*m):
		b.leave()
		return b.byMode(m)
	case m.Kind == api.MarkStart:
		b.insertForeign(space, m)
	case m.Kind == api.MarkEnd:
		return b.endForeign(m)
	}
	return false
}

// leave closes drawings and formulas, up to where the page goes on.
func (b *Builder) leave() {
	for {
		space, name, attrs := b.tree.What(b.stack.Top())
		if space == api.SpaceHTML || foreign.Point(space, name, attrs) != foreign.PointNone {
			return
		}
		b.stack.Pop()
	}
}

func (b *Builder) insertForeign(space int, m *api.Mark) {
	b.list.Insert(space, foreign.Name(space, m.Name), foreign.Attrs(space, m.Attrs))
	if m.Self {
		b.stack.Pop()
	}
}

// endForeign does an end within a drawing or a formula.
func (b *Builder) endForeign(m *api.Mark) bool {
	all := b.stack.All()
	for i := len(all) - 1; i > 0; i-- {
		space, name, _ := b.tree.What(all[i])
		if space == api.SpaceHTML {
			return b.byMode(m)
		}
		if lex.Lower(name) == m.Name {
			b.closeTo(i)
			return false
		}
	}
	return false
}

// closeTo closes all open elements from that place on.
func (b *Builder) closeTo(place int) {
	for n := len(b.stack.All()); n > place; n-- {
		b.stack.Pop()
	}
}

// byMode does a mark by the mode.
func (b *Builder) byMode(m *api.Mark) bool {
	switch b.mode {
	case inStart:
		return b.start(m)
	case inAhead:
		return b.aheadOfHead(m)
	case inHead:
		return b.inHead(m)
	case inBehind:
		return b.behindHead(m)
	case inText:
		return b.text(m)
	case inAfter:
		return b.after(m)
	case inBody:
		return b.body(m)
	case inTable:
		return b.table(m)
	case inCaption:
		return b.caption(m)
	case inColumns:
		return b.columns(m)
	case inRows:
		return b.rows(m)
	case inRow:
		return b.row(m)
	}
	return b.cell(m)
}

// insert inserts a mark's element, single one without content.
func (b *Builder) insert(m *api.Mark) { b.list.Insert(api.SpaceHTML, m.Name, m.Attrs) }

func (b *Builder) single(m *api.Mark) {
	b.insert(m)
	b.stack.Pop()
}

// plain inserts an element without attributes.
func (b *Builder) plain(name string) int {
	n, _ := b.list.Insert(api.SpaceHTML, name, nil)
	return n
}

// insertText inserts an element with nothing but text in it, and tells how that is read.
func (b *Builder) insertText(m *api.Mark, reads int) {
	b.insert(m)
	b.ahead, b.mode = b.mode, inText
	b.reads, b.name = reads, m.Name
}

// at tells whether the top is one of the page's own elements with one of the names.
func (b *Builder) at(names ...string) bool { return b.named(b.stack.Top(), names...) }

// cut takes the first spaces off a text, and tells them.
func cut(m *api.Mark) string {
	rest := strings.TrimLeft(m.Text, blanks)
	first := m.Text[:len(m.Text)-len(rest)]
	m.Text = rest
	return first
}

// blankText takes the first spaces off a text, and tells whether nothing is left.
func blankText(m *api.Mark) bool {
	if m.Kind != api.MarkText {
		return false
	}
	cut(m)
	return m.Text == ""
}

// puts puts the first spaces of a text, and tells whether nothing is left.
func (b *Builder) puts(m *api.Mark) bool {
	if m.Kind != api.MarkText {
		return false
	}
	b.list.Text(cut(m))
	return m.Text == ""
}

func (b *Builder) start(m *api.Mark) bool {
	switch {
	case blankText(m), endBut(m, "head", "body", "html", "br"):
		return false
	case start(m, "html"):
		b.insert(m)
		b.mode = inAhead
		return false
	}
	b.plain("html")
	b.mode = inAhead
	return true
}

func (b *Builder) aheadOfHead(m *api.Mark) bool {
	switch {
	case blankText(m), endBut(m, "head", "body", "html", "br"), start(m, "html"):
		return false
	case start(m, "head"):
		b.head, _ = b.list.Insert(api.SpaceHTML, m.Name, m.Attrs)
		b.mode = inHead
		return false
	}
	b.head = b.plain("head")
	b.mode = inHead
	return true
}

func (b *Builder) inHead(m *api.Mark) bool {
	switch {
	case b.puts(m), b.headLine(m), start(m, "html", "head"), endBut(m, "head", "body", "html", "br"):
		return false
	}
	b.stack.Pop()
	b.mode = inBehind
	return !end(m, "head")
}

// headLine does a start that a head may have, and tells whether it is one.
func (b *Builder) headLine(m *api.Mark) bool {
	switch {
	case start(m, "base", "basefont", "bgsound", "link", "meta"):
		b.single(m)
	case start(m, "title"):
		b.insertText(m, api.ModeRefs)
	case start(m, "style", "script", "noframes"):
		b.insertText(m, api.ModeRaw)
	default:
		return false
	}
	return true
}

func (b *Builder) behindHead(m *api.Mark) bool {
	switch {
	case b.puts(m), start(m, "html", "head", "frameset"), endBut(m, "body", "html", "br"):
		return false
	case start(m, "body"):
		b.insert(m)
		b.mode = inBody
		return false
	}
	b.stack.Push(b.head)
	done := b.headLine(m)
	b.stack.Remove(b.head)
	if done {
		return false
	}
	b.plain("body")
	b.mode = inBody
	return true
}

func (b *Builder) text(m *api.Mark) bool {
	if m.Kind == api.MarkText {
		b.list.Text(m.Text)
		return false
	}
	b.stack.Pop()
	b.mode = b.ahead
	return m.Kind != api.MarkEnd
}

func (b *Builder) after(m *api.Mark) bool {
	switch {
	case start(m, "html"), end(m, "html"), m.Kind == api.MarkEOF:
		return false
	case m.Kind == api.MarkText:
		if first := cut(m); first != "" {
			b.bodyText(first)
		}
		if m.Text == "" {
			return false
		}
	}
	b.mode = inBody
	return true
}
