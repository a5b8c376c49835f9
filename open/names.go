package open

import "colander/api"

// Void tells whether an element never has kids (O1).
func Void(name string) bool {
	switch name {
	case "area", "base", "basefont", "bgsound", "br", "col", "embed", "frame", "hr", "img", "input", "keygen", "link", "meta", "param", "source", "track", "wbr":
		return true
	}
	return false
}

// Special tells whether an element is special (O1).
func Special(space int, name string) bool {
	switch space {
	case api.SpaceHTML:
		return Void(name) || specialPage(name)
	case api.SpaceMath:
		switch name {
		case "mi", "mo", "mn", "ms", "mtext", "annotation-xml":
			return true
		}
	case api.SpaceSVG:
		switch name {
		case "foreignObject", "desc", "title":
			return true
		}
	}
	return false
}

// specialPage tells which of a page's own elements are special besides the void ones.
func specialPage(name string) bool {
	switch name {
	case "address", "applet", "article", "aside", "blockquote", "body", "button", "caption", "center", "colgroup",
		"dd", "details", "dir", "div", "dl", "dt", "fieldset", "figcaption", "figure", "footer", "form",
		"h1", "h2", "h3", "h4", "h5", "h6", "head", "header", "html", "iframe", "li", "listing", "main", "marquee", "menu",
		"nav", "noembed", "noframes", "object", "ol", "p", "pre", "script", "section", "select", "style", "summary",
		"table", "tbody", "td", "textarea", "tfoot", "th", "thead", "title", "tr", "ul", "xmp":
		return true
	}
	return false
}

// Bounds tells whether an element bounds a search by that scope (O1).
func Bounds(scope, space int, name string) bool {
	page := space == api.SpaceHTML
	switch scope {
	case ScopeAny:
		return boundsAny(space, name)
	case ScopeList:
		return boundsAny(space, name) || page && (name == "ol" || name == "ul")
	case ScopeButton:
		return boundsAny(space, name) || page && name == "button"
	case ScopeTable:
		return page && (name == "html" || name == "table")
	}
	return false
}

func boundsAny(space int, name string) bool {
	if space != api.SpaceHTML {
		return Special(space, name)
	}
	switch name {
	case "applet", "caption", "html", "table", "td", "th", "marquee", "object":
		return true
	}
	return false
}
