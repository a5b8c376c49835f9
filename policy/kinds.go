// Package policy is layer 18: see shared/doc/18-policy.md.
package policy

// What an element is to the policy.
const (
	KindNone   = 0
	KindDrop   = 1
	KindFlow   = 2
	KindLine   = 3
	KindPhrase = 4
	KindVoid   = 5
	KindRule   = 6
	KindList   = 7
	KindItem   = 8
	KindTable  = 9
	KindTitle  = 10
	KindGroup  = 11
	KindRow    = 12
	KindCell   = 13
	KindBody   = 14
)

// Kind is an element's kind (L1).
func Kind(name string) int {
	switch name {
	case "body":
		return KindBody
	case "div", "blockquote":
		return KindFlow
	case "p", "h1", "h2", "h3", "h4", "h5", "h6", "pre":
		return KindLine
	case "a", "b", "code", "em", "i", "meter", "progress", "s", "small", "span", "strong", "sub", "sup", "u":
		return KindPhrase
	case "br", "img":
		return KindVoid
	case "hr":
		return KindRule
	case "ol", "ul":
		return KindList
	case "li":
		return KindItem
	case "table":
		return KindTable
	case "caption":
		return KindTitle
	case "tbody", "tfoot", "thead":
		return KindGroup
	case "tr":
		return KindRow
	case "td", "th":
		return KindCell
	case "applet", "audio", "base", "button", "canvas", "embed", "frame", "frameset", "head", "iframe", "input", "link", "meta",
		"noembed", "noframes", "object", "option", "param", "script", "select", "style", "template", "textarea", "title", "video", "xmp":
		return KindDrop
	}
	return KindNone
}

// May tells whether an element may have another one right in it (L1).
func May(parent, kid string) bool {
	k := Kind(kid)
	switch Kind(parent) {
	case KindBody, KindFlow, KindItem, KindCell:
		return k >= KindFlow && k <= KindList || k == KindTable
	case KindLine, KindTitle:
		return k == KindPhrase || k == KindVoid
	case KindPhrase:
		return (k == KindPhrase || k == KindVoid) && kid != parent
	case KindList:
		return k == KindItem
	case KindTable:
		return k == KindTitle || k == KindGroup
	case KindGroup:
		return k == KindRow
	case KindRow:
		return k == KindCell
	}
	return false
}

// Takes tells whether an element may have a text (L1).
func Takes(parent string) bool {
	switch Kind(parent) {
	case KindBody, KindFlow, KindLine, KindPhrase, KindItem, KindTitle, KindCell:
		return true
	}
	return false
}
