package build

import (
	"colander/api"
	"colander/open"
)

// has tells whether one of the names is in table scope.
func (b *Builder) has(names ...string) bool { return b.stack.Has(open.ScopeTable, names...) }

// popTo closes all above the first one of the names, and that one.
func (b *Builder) popTo(names ...string) {
	b.stack.Clear(append(names, "html")...)
	b.stack.Pop()
}

// outside tells whether it is an end that a table's modes pass over: of the page's frame, or of a part.
func outside(m *api.Mark) bool { return end(m, "body", "html") || endOf(m, part) }

func (b *Builder) table(m *api.Mark) bool {
	switch {
	case m.Kind == api.MarkText && b.at("table", "tr", "tbody", "tfoot", "thead"):
		b.waits = append(b.waits, m.Text...)
	case startOf(m, part):
		return b.tablePart(m)
	case start(m, "table"), end(m, "table"):
		if !b.has("table") {
			return false
		}
		b.stack.Until("table")
		b.mode = b.foundAnew()
		return m.Kind == api.MarkStart
	case outside(m), m.Kind == api.MarkEOF:
	case start(m, "style", "script"):
		b.headLine(m)
	default:
		b.list.Foster(true)
		again := b.body(m)
		b.list.Foster(false)
		return again
	}
	return false
}

// tablePart starts a part right in a table; what must stand around it is inserted ahead of it.
func (b *Builder) tablePart(m *api.Mark) bool {
	b.stack.Clear("table", "html")
	switch m.Name {
	case "caption":
		b.list.Mark()
		b.insert(m)
		b.mode = inCaption
	case "colgroup":
		b.insert(m)
		b.mode = inColumns
	case "col":
		b.plain("colgroup")
		b.mode = inColumns
		return true
	case "tbody", "tfoot", "thead":
		b.insert(m)
		b.mode = inRows
	default:
		b.plain("tbody")
		b.mode = inRows
		return true
	}
	return false
}

// foundAnew is the mode that the open elements tell.
func (b *Builder) foundAnew() int {
	all := b.stack.All()
	for i := len(all) - 1; i >= 0; i-- {
		switch n := all[i]; {
		case b.named(n, "td", "th"):
			return inCell
		case b.named(n, "tr"):
			return inRow
		case b.named(n, groups()...):
			return inRows
		case b.named(n, "caption"):
			return inCaption
		case b.named(n, "colgroup"):
			return inColumns
		case b.named(n, "table"):
			return inTable
		case b.named(n, "body"):
			return inBody
		}
	}
	return inBody
}

func (b *Builder) caption(m *api.Mark) bool {
	switch {
	case end(m, "caption", "table"), startOf(m, part):
		if !b.has("caption") {
			return false
		}
		b.close("caption")
		b.list.Clear()
		b.mode = inTable
		return !end(m, "caption")
	case outside(m):
		return false
	}
	return b.body(m)
}

func (b *Builder) columns(m *api.Mark) bool {
	switch {
	case b.puts(m), start(m, "html"), end(m, "col"), m.Kind == api.MarkEOF:
		return false
	case start(m, "col"):
		b.single(m)
		return false
	}
	if !b.at("colgroup") {
		return false
	}
	b.stack.Pop()
	b.mode = inTable
	return !end(m, "colgroup")
}

func (b *Builder) rows(m *api.Mark) bool {
	switch {
	case start(m, "tr"):
		b.stack.Clear(append(groups(), "html")...)
		b.insert(m)
		b.mode = inRow
		return false
	case startOf(m, cell):
		b.stack.Clear(append(groups(), "html")...)
		b.plain("tr")
		b.mode = inRow
		return true
	case endOf(m, group):
		if b.has(m.Name) {
			b.popTo(groups()...)
			b.mode = inTable
		}
		return false
	case startOf(m, part), end(m, "table"):
		if !b.has(groups()...) {
			return false
		}
		b.popTo(groups()...)
		b.mode = inTable
		return true
	case outside(m):
		return false
	}
	return b.table(m)
}

func (b *Builder) row(m *api.Mark) bool {
	switch {
	case startOf(m, cell):
		b.stack.Clear("tr", "html")
		b.insert(m)
		b.mode = inCell
		b.list.Mark()
		return false
	case endOf(m, group) && !b.has(m.Name):
		return false
	case end(m, "tr", "table"), endOf(m, group), startOf(m, part):
		if !b.has("tr") {
			return false
		}
		b.popTo("tr")
		b.mode = inRows
		return !end(m, "tr")
	case outside(m):
		return false
	}
	return b.table(m)
}

func (b *Builder) cell(m *api.Mark) bool {
	switch {
	case endOf(m, cell):
		if b.has(m.Name) {
			b.endCell(m.Name)
		}
		return false
	case startOf(m, part), (end(m, "table", "tr") || endOf(m, group)) && b.has(m.Name):
		if !b.has("td", "th") {
			return false
		}
		b.endCell("td", "th")
		return true
	case end(m, "table"), outside(m):
		return false
	}
	return b.body(m)
}

// endCell ends a cell of one of the names.
func (b *Builder) endCell(names ...string) {
	b.close(names...)
	b.list.Clear()
	b.mode = inRow
}
