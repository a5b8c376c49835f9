package marks

import (
	"strings"

	"colander/api"
	"colander/lex"
	"colander/refs"
)

// tag is a tag as it stands there.
type tag struct {
	name  string
	attrs []api.Attr
	self  bool
}

// start tells the start tag at the place.
func (m *machine) start() (api.Mark, int) {
	t, how := m.tag("<")
	if how != told {
		return api.Mark{}, how
	}
	attrs := first(t.attrs)
	if len(attrs) > api.MaxAttrs {
		m.err = api.ErrAttrs
		return api.Mark{}, waits
	}
	for i := range attrs {
		attrs[i].Value = refs.All(attrs[i].Value, true)
	}
	return api.Mark{Kind: api.MarkStart, Name: lex.Lower(t.name), Attrs: attrs, Self: t.self}, told
}

// end tells the end tag at the place; behind it the mode is over.
func (m *machine) end() (api.Mark, int) {
	t, how := m.tag("</")
	if how != told {
		return api.Mark{}, how
	}
	m.read(api.ModeData, "")
	return api.Mark{Kind: api.MarkEnd, Name: lex.Lower(t.name)}, told
}

// first are the attributes that count, as soon as they are too many no more than these: of one name the first one.
func first(l []api.Attr) []api.Attr {
	var kept []api.Attr
	for _, a := range l {
		a.Name = lex.Lower(a.Name)
		if !has(kept, a.Name) {
			kept = append(kept, a)
		}
		if len(kept) > api.MaxAttrs {
			break
		}
	}
	return kept
}

func has(l []api.Attr, name string) bool {
	for _, a := range l {
		if a.Name == name {
			return true
		}
	}
	return false
}

// tag reads the tag at the place, and goes behind it.
func (m *machine) tag(begin string) (tag, int) {
	rest := m.text[m.at:]
	c := &cursor{s: rest[:min(len(rest), api.MaxMark)], at: len(begin)}
	t, whole := c.tag()
	switch {
	case whole:
		m.at += c.at
		return t, told
	case len(rest) > api.MaxMark:
		m.err = api.ErrMark
		return tag{}, waits
	case m.ended:
		m.at = len(m.text)
		return tag{}, passed
	}
	return tag{}, waits
}

// cursor goes over the bytes of a tag.
type cursor struct {
	s  string
	at int
}

// over tells whether the bytes are at their end.
func (c *cursor) over() bool { return c.at >= len(c.s) }

// is tells whether this byte stands at the place.
func (c *cursor) is(b byte) bool { return !c.over() && c.s[c.at] == b }

// until goes to the first byte that is one of these, and tells what it passed.
func (c *cursor) until(these string) string {
	begin := c.at
	for !c.over() && strings.IndexByte(these, c.s[c.at]) < 0 {
		c.at++
	}
	return c.s[begin:c.at]
}

// pass goes behind the bytes that are some of these.
func (c *cursor) pass(these string) {
	for !c.over() && strings.IndexByte(these, c.s[c.at]) >= 0 {
		c.at++
	}
}

// tag reads a tag from its name on, and tells whether it is whole.
func (c *cursor) tag() (tag, bool) {
	t := tag{name: c.until(spaces + "/>")}
	for {
		begin := c.at
		c.pass(spaces + "/")
		if c.over() {
			return tag{}, false
		}
		if c.is('>') {
			t.self = c.at > begin && c.s[c.at-1] == '/'
			c.at++
			return t, true
		}
		t.attrs = append(t.attrs, c.attr())
	}
}

// attr reads an attribute; one that the bytes' end cuts off leaves the place there.
func (c *cursor) attr() api.Attr {
	begin := c.at
	c.at++ // whichever byte it is
	c.until(spaces + "/>=")
	a := api.Attr{Name: c.s[begin:c.at]}
	c.pass(spaces)
	if c.is('=') {
		c.at++
		c.pass(spaces)
		a.Value = c.value()
	}
	return a
}

func (c *cursor) value() string {
	if !c.is('"') && !c.is('\'') {
		return c.until(spaces + ">")
	}
	quote := c.s[c.at : c.at+1]
	c.at++
	v := c.until(quote)
	c.at++
	return v
}
