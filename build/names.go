package build

import (
	"slices"

	"colander/api"
)

// part tells whether it is a part of a table.
func part(name string) bool {
	switch name {
	case "caption", "col", "colgroup", "tbody", "td", "tfoot", "th", "thead", "tr":
		return true
	}
	return false
}

func groups() []string { return []string{"tbody", "tfoot", "thead"} }

func group(name string) bool { return slices.Contains(groups(), name) }

func cell(name string) bool { return name == "td" || name == "th" }

func headings() []string { return []string{"h1", "h2", "h3", "h4", "h5", "h6"} }

func heading(name string) bool { return slices.Contains(headings(), name) }

func block(name string) bool {
	switch name {
	case "address", "article", "aside", "blockquote", "center", "details", "dialog", "dir", "div", "dl",
		"fieldset", "figcaption", "figure", "footer", "form", "header", "hgroup", "main", "menu", "nav",
		"ol", "p", "section", "summary", "ul":
		return true
	}
	return false
}

func formed(name string) bool {
	switch name {
	case "b", "big", "code", "em", "font", "i", "s", "small", "strike", "strong", "tt", "u":
		return true
	}
	return false
}

// start tells whether it is a start of one of the names.
func start(m *api.Mark, names ...string) bool {
	return m.Kind == api.MarkStart && slices.Contains(names, m.Name)
}

// end tells whether it is an end of one of the names.
func end(m *api.Mark, names ...string) bool {
	return m.Kind == api.MarkEnd && slices.Contains(names, m.Name)
}

// endBut tells whether it is an end of none of the names.
func endBut(m *api.Mark, names ...string) bool {
	return m.Kind == api.MarkEnd && !slices.Contains(names, m.Name)
}

// startOf and endOf tell whether it is a start, or an end, of a kind of names.
func startOf(m *api.Mark, kind func(name string) bool) bool {
	return m.Kind == api.MarkStart && kind(m.Name)
}

func endOf(m *api.Mark, kind func(name string) bool) bool {
	return m.Kind == api.MarkEnd && kind(m.Name)
}
