package policy

import (
	"slices"
	"strings"

	"colander/api"
	"colander/lex"
	"colander/real"
	"colander/refs"
	"colander/utf8"
)

// Text is a plain text of any (L2).
func Text(s string) string {
	return strings.Map(func(r rune) rune {
		if odd(r) {
			return -1
		}
		return r
	}, utf8.Decode([]byte(s)))
}

// odd tells whether a character stands in no plain text.
func odd(r rune) bool {
	return r < ' ' && r != '\t' && r != '\n' || r >= 0x7F && r <= 0x9F
}

// plain tells whether a text is plain.
func plain(s string) bool {
	return utf8.Fault([]byte(s)) == len(s) && strings.IndexFunc(s, odd) < 0
}

// Link is a link as those who follow it read it (L2).
func Link(s string) string {
	inOneLine := strings.Map(func(r rune) rune {
		if r == '\t' || r == '\n' {
			return -1
		}
		return r
	}, Text(s))
	return strings.Trim(inOneLine, " ")
}

// Scheme is what a link begins with, up to the : (L2).
func Scheme(s string) (string, bool) {
	name, _, found := strings.Cut(s, ":")
	if !found || !word(name, "+-.") {
		return "", false
	}
	return lex.Lower(name), true
}

// word tells whether it is a letter, and letters, digits and others that may be.
func word(s, others string) bool {
	for i := 0; i < len(s); i++ {
		c := s[i]
		letter := c >= 'a' && c <= 'z' || c >= 'A' && c <= 'Z'
		if !letter && (i == 0 || (c < '0' || c > '9') && strings.IndexByte(others, c) < 0) {
			return false
		}
	}
	return s != ""
}

// Value is the one form of an attribute's value, if that may be (L3).
func Value(elem, name, value string) (string, bool) {
	k := Kind(elem)
	if k < KindFlow || k == KindBody {
		return "", false
	}
	form, ok := common(name, value)
	if !ok {
		form, ok = own(elem, name, value)
	}
	if !ok || len(refs.Escape(form, true)) > api.MaxWritten {
		return "", false
	}
	return form, true
}

// common are the attributes that any element may have.
func common(name, value string) (string, bool) {
	switch name {
	case "title":
		return Text(value), true
	case "lang":
		return value, len(value) <= 16 && word(value, "-")
	case "dir":
		dir := lex.Lower(value)
		return dir, dir == "auto" || dir == "ltr" || dir == "rtl"
	}
	return "", false
}

// own are the attributes that an element has of its own.
func own(elem, name, value string) (string, bool) {
	switch elem + " " + name {
	case "a href":
		return link(value, "http", "https", "mailto")
	case "img src":
		return link(value, "http", "https")
	case "img alt":
		return Text(value), true
	case "img height", "img width":
		return whole(value, 0, 9999)
	case "ol start":
		return whole(value, 0, 999999)
	case "td colspan", "td rowspan", "th colspan", "th rowspan":
		return whole(value, 1, api.MaxSpan)
	case "meter max", "meter value", "meter high", "meter low", "meter min", "progress max", "progress value":
		return real.Fix(value)
	}
	return "", false
}

func link(value string, schemes ...string) (string, bool) {
	l := Link(value)
	scheme, ok := Scheme(l)
	return l, !ok || slices.Contains(schemes, scheme)
}

func whole(value string, lo, hi int) (string, bool) {
	_, ok := real.Whole(value, lo, hi)
	return value, ok
}

// Attrs are those that an element may have, in their order (L3).
func Attrs(elem string, l []api.Attr) []api.Attr {
	var kept []api.Attr
	seen := map[string]int{}
	for i, a := range l {
		if _, ok := seen[a.Name]; ok {
			continue
		}
		seen[a.Name] = i
		if form, ok := Value(elem, a.Name, a.Value); ok {
			kept = append(kept, api.Attr{Name: a.Name, Value: form})
		}
	}
	slices.SortFunc(kept, rising)
	return kept
}

func rising(a, b api.Attr) int { return strings.Compare(a.Name, b.Name) }
