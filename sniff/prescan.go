package sniff

import (
	"slices"
	"strings"

	"colander/api"
	"colander/leaf"
	"colander/lex"
)

// ended is what the reader gives up with where the bytes end.
type ended struct{}

// scan goes over a page's first bytes, with small letters.
type scan struct {
	s  string
	at int
}

// Prescan is the encoding that a page tells of itself (N3).
func Prescan(b []byte) (c int) {
	defer func() {
		if r := recover(); r != nil {
			if _, ok := r.(ended); !ok {
				panic(r)
			}
			c = api.CharNone
		}
	}()
	s := &scan{s: lex.Lower(string(b[:min(len(b), api.MaxSniff)]))}
	for c == api.CharNone {
		c = s.step()
	}
	return c
}

// here is the byte at the place.
func (s *scan) here() byte {
	if s.at >= len(s.s) {
		panic(ended{})
	}
	return s.s[s.at]
}

// until goes on to the first byte that is one of these.
func (s *scan) until(these string) {
	for strings.IndexByte(these, s.here()) < 0 {
		s.at++
	}
}

// pass goes behind the bytes that are some of these.
func (s *scan) pass(these string) {
	for strings.IndexByte(these, s.here()) >= 0 {
		s.at++
	}
}

// step does what stands at the place, and goes behind it.
func (s *scan) step() int {
	s.here()
	rest, c := s.s[s.at:], api.CharNone
	switch {
	case strings.HasPrefix(rest, "<!--"):
		s.comment()
	case metaBegins(rest):
		s.at += len("<meta")
		c = s.meta()
	case letterAt(rest, 1) && rest[0] == '<', letterAt(rest, 2) && strings.HasPrefix(rest, "</"):
		s.until(spaces + ">")
		for found := true; found; {
			_, _, found = s.attr()
		}
	case strings.HasPrefix(rest, "<!"), strings.HasPrefix(rest, "</"), strings.HasPrefix(rest, "<?"):
		s.until(">")
	}
	s.at++
	return c
}

func metaBegins(s string) bool {
	rest, found := strings.CutPrefix(s, "<meta")
	return found && rest != "" && strings.IndexByte(spaces+"/", rest[0]) >= 0
}

func letterAt(s string, i int) bool { return i < len(s) && s[i] >= 'a' && s[i] <= 'z' }

// comment goes to the > that ends it.
func (s *scan) comment() {
	s.at += len("<!--")
	s.until(">")
	for s.s[s.at-2:s.at] != "--" {
		s.at++
		s.until(">")
	}
}

// meta is the encoding that the attributes of a meta tell.
func (s *scan) meta() int {
	var seen []string
	pragma, needed, told := false, false, false
	c := api.CharNone
	for {
		name, value, found := s.attr()
		if !found {
			break
		}
		if slices.Contains(seen, name) {
			continue
		}
		seen = append(seen, name)
		switch name {
		case "http-equiv":
			pragma = value == "content-type"
		case "content":
			if n := Content(value); !told && n != api.CharNone {
				c, told, needed = n, true, true
			}
		case "charset":
			c, told, needed = leaf.Label(value), true, false
		}
	}
	switch {
	case needed && !pragma:
		return api.CharNone
	case c == api.CharUTF16:
		return api.CharUTF8
	}
	return c
}

// attr reads an attribute: its name, its value, and whether there is one; it stands at a > if there is none.
func (s *scan) attr() (string, string, bool) {
	s.pass(spaces + "/")
	if s.here() == '>' {
		return "", "", false
	}
	begin := s.at
	s.at++ // a name may begin with =
	s.until(spaces + "/>=")
	name := s.s[begin:s.at]
	s.pass(spaces)
	if s.here() != '=' {
		return name, "", true
	}
	s.at++
	s.pass(spaces)
	return name, s.value(), true
}

func (s *scan) value() string {
	quote := s.here()
	begin := s.at
	if quote != '"' && quote != '\'' {
		s.until(spaces + ">")
		return s.s[begin:s.at]
	}
	s.at++
	s.until(string(rune(quote)))
	s.at++
	return s.s[begin+1 : s.at-1]
}
