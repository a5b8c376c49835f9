package policy

import (
	"slices"

	"colander/api"
)

// Holds tells whether a tree is such a page (L4).
func Holds(n api.Node) bool {
	if !bare(n, "html") || len(n.Kids) != 2 || !headHolds(n.Kids[0]) {
		return false
	}
	body := n.Kids[1]
	h := holder{nodes: 2 + len(n.Kids[0].Kids)}
	if len(n.Kids[0].Kids) > 1 {
		h.nodes++ // the title's text
	}
	return elem(body, "body") && h.holds(body, 2)
}

// elem tells whether it is such an element, and nothing else besides.
func elem(n api.Node, name string) bool {
	return n.Kind == api.NodeElem && n.Space == api.SpaceHTML && n.Name == name && n.Text == ""
}

// bare tells whether it is such an element, without attributes.
func bare(n api.Node, name string) bool { return elem(n, name) && len(n.Attrs) == 0 }

func headHolds(n api.Node) bool {
	if !bare(n, "head") || len(n.Kids) < 1 || len(n.Kids) > 2 {
		return false
	}
	meta := n.Kids[0]
	if !elem(meta, "meta") || len(meta.Kids) > 0 || !slices.Equal(meta.Attrs, []api.Attr{{Name: "charset", Value: "utf-8"}}) {
		return false
	}
	if len(n.Kids) == 1 {
		return true
	}
	title := n.Kids[1]
	return bare(title, "title") && len(title.Kids) == 1 && textHolds(title.Kids[0])
}

// textHolds tells whether it is a plain text, and nothing else besides.
func textHolds(n api.Node) bool {
	return n.Kind == api.NodeText && n.Text != "" && plain(n.Text) && n.Space == 0 && n.Name == "" && len(n.Attrs) == 0 && len(n.Kids) == 0
}

// holder goes over a body: it counts nodes, and keeps the elements of KindPhrase that it is in.
type holder struct {
	nodes   int
	phrases []string
}

// holds tells whether an element holds, that may be where it is, with all below it.
func (h *holder) holds(n api.Node, depth int) bool {
	h.nodes++
	if h.nodes > api.MaxNodes || depth > api.MaxDepth || !elem(n, n.Name) || !attrsHold(n) {
		return false
	}
	if Kind(n.Name) == KindPhrase {
		if slices.Contains(h.phrases, n.Name) {
			return false
		}
		h.phrases = append(h.phrases, n.Name)
		defer func() { h.phrases = h.phrases[:len(h.phrases)-1] }()
	}
	for i, k := range n.Kids {
		if k.Kind == api.NodeText {
			h.nodes++
			twice := i > 0 && n.Kids[i-1].Kind == api.NodeText
			if h.nodes > api.MaxNodes || depth == api.MaxDepth || twice || !Takes(n.Name) || !textHolds(k) {
				return false
			}
			continue
		}
		if !May(n.Name, k.Name) || k.Name == "caption" && i > 0 || !h.holds(k, depth+1) {
			return false
		}
	}
	return true
}

// attrsHold tells whether an element's attributes may be, have their form, and rise.
func attrsHold(n api.Node) bool {
	for i, a := range n.Attrs {
		form, ok := Value(n.Name, a.Name, a.Value)
		if !ok || form != a.Value || i > 0 && n.Attrs[i-1].Name >= a.Name {
			return false
		}
	}
	return true
}
