package marks

import (
	"strings"

	"colander/api"
	"colander/refs"
)

const spaces = "\t\n\f "

// What is being passed: its bytes are not held.
const (
	passNothing = iota
	passComment // up to its own end
	passBogus   // a comment that ends with a >
	passDoctype
)

// What stands at a place.
const (
	isText = iota
	isStart
	isEnd
	isNothing
	isComment
	isBogus
	isDoctype
	isCdata
	isUncertain // what comes behind tells
)

// How a step went.
const (
	told   = iota // there is a mark
	passed        // there is none, and one goes on
	waits         // there is none yet, or there is an error
)

// machine goes over a text, of which more may come.
type machine struct {
	text    string // as it is read, without what was dropped
	at      int
	ended   bool
	behind  bool // the last byte was a CR: an LF belongs to it
	passing int
	mode    int
	name    string
	cdata   bool
	err     api.Errno
}

// put goes on with the text, and drops what is behind the place.
func (m *machine) put(text string) {
	if text == "" || m.err != api.OK {
		return
	}
	if m.behind {
		text = strings.TrimPrefix(text, "\n")
	}
	m.behind = strings.HasSuffix(text, "\r")
	text = strings.ReplaceAll(text, "\r\n", "\n")
	text = strings.ReplaceAll(text, "\r", "\n")
	m.text = m.text[m.at:] + strings.ReplaceAll(text, "\x00", "\uFFFD")
	m.at = 0
}

// read sets the mode; one that may not be is ModeData.
func (m *machine) read(mode int, name string) {
	m.mode, m.name = api.ModeData, ""
	if (mode == api.ModeRefs || mode == api.ModeRaw) && plain(name) {
		m.mode, m.name = mode, name
	}
}

// plain tells whether a name is small letters and digits, a letter first.
func plain(name string) bool {
	for i := 0; i < len(name); i++ {
		small := name[i] >= 'a' && name[i] <= 'z'
		if !small && (i == 0 || name[i] < '0' || name[i] > '9') {
			return false
		}
	}
	return name != ""
}

// inner is the mode behind a start tag where nobody else says so.
func inner(name string) int {
	switch name {
	case "title", "textarea":
		return api.ModeRefs
	case "style", "script", "xmp", "iframe", "noembed", "noframes":
		return api.ModeRaw
	}
	return api.ModeData
}

// rest tells all marks that are certain.
func (m *machine) rest() ([]api.Mark, api.Errno) {
	var l []api.Mark
	for {
		mark, ok := m.next()
		if m.err != api.OK {
			m.text, m.at = "", 0
			return nil, m.err
		}
		if !ok || mark.Kind == api.MarkEOF {
			return l, api.OK
		}
		l = append(l, mark)
		if mark.Kind == api.MarkStart {
			m.read(inner(mark.Name), mark.Name)
		}
	}
}

// next is the next mark, and whether there is one by now.
func (m *machine) next() (api.Mark, bool) {
	for m.err == api.OK {
		mark, how := m.step()
		if how != passed {
			return mark, how == told
		}
	}
	return api.Mark{}, false
}

// step does what stands at the place.
func (m *machine) step() (api.Mark, int) {
	switch m.passing {
	case passComment:
		return m.comment()
	case passBogus:
		return m.upTo(api.MarkComment)
	case passDoctype:
		return m.upTo(api.MarkDoctype)
	}
	if m.at == len(m.text) {
		return m.over(api.Mark{Kind: api.MarkEOF})
	}
	n := m.run()
	if n > 0 {
		return m.words(n)
	}
	switch m.looks(m.text[m.at:]) {
	case isStart:
		return m.start()
	case isEnd:
		return m.end()
	case isNothing:
		m.at += len("</>")
		return api.Mark{}, passed
	case isComment:
		return m.commentBegins()
	case isBogus:
		return m.pass("<!", passBogus)
	case isDoctype:
		return m.pass("<!doctype", passDoctype)
	case isCdata:
		return m.section()
	}
	return api.Mark{}, waits
}

// over is what there is where the text so far is at its end.
func (m *machine) over(mark api.Mark) (api.Mark, int) {
	if !m.ended {
		return api.Mark{}, waits
	}
	return mark, told
}

// run is how many bytes from the place on are text.
func (m *machine) run() int {
	rest := m.text[m.at:]
	for n := 0; n < len(rest); n++ {
		i := strings.IndexByte(rest[n:], '<')
		if i < 0 {
			break
		}
		n += i
		if m.looks(rest[n:]) != isText {
			return n
		}
	}
	return len(rest)
}

// words tells a text of n bytes, but for a reference at its end that may go on.
func (m *machine) words(n int) (api.Mark, int) {
	text := m.text[m.at : m.at+n]
	if m.mode == api.ModeRaw {
		m.at += n
		return api.Mark{Kind: api.MarkText, Text: text}, told
	}
	if !m.ended && m.at+n == len(m.text) {
		if i := strings.LastIndexByte(text, '&'); i >= 0 && refs.More(text[i:]) {
			text = text[:i]
		}
	}
	if text == "" {
		return api.Mark{}, waits
	}
	m.at += len(text)
	return api.Mark{Kind: api.MarkText, Text: refs.All(text, false)}, told
}

// looks tells what stands at the < with which s begins.
func (m *machine) looks(s string) int {
	if m.mode != api.ModeData {
		return m.looksInner(s)
	}
	if len(s) > 1 && letter(s[1]) {
		return isStart
	}
	switch {
	case s == "<" || s == "</":
		return m.unless(isText)
	case strings.HasPrefix(s, "</"):
		return looksEnd(s[2])
	case strings.HasPrefix(s, "<?"):
		return isBogus
	case strings.HasPrefix(s, "<!"):
		return m.looksDeclared(s)
	}
	return isText
}

// unless is what stands there if nothing comes behind it.
func (m *machine) unless(what int) int {
	if !m.ended {
		return isUncertain
	}
	return what
}

// looksEnd goes by the byte behind </.
func looksEnd(c byte) int {
	switch {
	case letter(c):
		return isEnd
	case c == '>':
		return isNothing
	}
	return isBogus
}

// looksDeclared tells what stands at a <!.
func (m *machine) looksDeclared(s string) int {
	const comment, doctype, cdata = "<!--", "<!doctype", "<![CDATA["
	n := alike(s, doctype)
	switch {
	case strings.HasPrefix(s, comment):
		return isComment
	case n == len(doctype):
		return isDoctype
	case m.cdata && strings.HasPrefix(s, cdata):
		return isCdata
	case n == len(s), strings.HasPrefix(comment, s), m.cdata && strings.HasPrefix(cdata, s):
		return m.unless(isBogus)
	}
	return isBogus
}

// looksInner tells whether the end tag stands there that ends the mode.
func (m *machine) looksInner(s string) int {
	want := "</" + m.name
	n := alike(s, want)
	switch {
	case n == len(s):
		return m.unless(isText)
	case n == len(want) && strings.IndexByte(spaces+"/>", s[n]) >= 0:
		return isEnd
	}
	return isText
}

// alike is how many bytes of s are the same as those of want, which has small letters.
func alike(s, want string) int {
	n := 0
	for n < len(s) && n < len(want) && (s[n] == want[n] || letter(s[n]) && s[n]|0x20 == want[n]) {
		n++
	}
	return n
}

func letter(c byte) bool { return c >= 'a' && c <= 'z' || c >= 'A' && c <= 'Z' }

// pass goes behind the beginning, and passes what follows.
func (m *machine) pass(begin string, what int) (api.Mark, int) {
	m.at += len(begin)
	m.passing = what
	return api.Mark{}, passed
}

// tell tells a mark n bytes on, and passes nothing any more.
func (m *machine) tell(kind, n int) (api.Mark, int) {
	m.at += n
	m.passing = passNothing
	return api.Mark{Kind: kind}, told
}

// upTo passes what ends with a >.
func (m *machine) upTo(kind int) (api.Mark, int) {
	rest := m.text[m.at:]
	if n := strings.IndexByte(rest, '>'); n >= 0 {
		return m.tell(kind, n+1)
	}
	if m.ended {
		return m.tell(kind, len(rest))
	}
	m.at = len(m.text)
	return api.Mark{}, waits
}

// commentBegins tells one that ends at once, or passes it.
func (m *machine) commentBegins() (api.Mark, int) {
	const begin = "<!--"
	rest := m.text[m.at+len(begin):]
	switch {
	case strings.HasPrefix(rest, ">"):
		return m.tell(api.MarkComment, len(begin)+1)
	case strings.HasPrefix(rest, "->"):
		return m.tell(api.MarkComment, len(begin)+2)
	case !m.ended && (rest == "" || rest == "-"):
		return api.Mark{}, waits
	}
	return m.pass(begin, passComment)
}

// comment passes a comment.
func (m *machine) comment() (api.Mark, int) {
	const longest = len("--!") // of an end that is not whole
	rest := m.text[m.at:]
	if n := commentEnd(rest); n > 0 {
		return m.tell(api.MarkComment, n)
	}
	if m.ended {
		return m.tell(api.MarkComment, len(rest))
	}
	m.at = max(m.at, len(m.text)-longest)
	return api.Mark{}, waits
}

// commentEnd is how many bytes there are up to and with a comment's end; 0: it does not end.
func commentEnd(s string) int {
	for n := 0; ; n++ {
		i := strings.Index(s[n:], "--")
		if i < 0 {
			return 0
		}
		n += i
		switch {
		case strings.HasPrefix(s[n:], "-->"):
			return n + 3
		case strings.HasPrefix(s[n:], "--!>"):
			return n + 4
		}
	}
}

// section tells what stands in a CDATA.
func (m *machine) section() (api.Mark, int) {
	const begin, end = "<![CDATA[", "]]>"
	text, _, found := strings.Cut(m.text[m.at+len(begin):], end)
	if !found && !m.ended {
		return api.Mark{}, waits
	}
	m.at = min(m.at+len(begin)+len(text)+len(end), len(m.text))
	if text == "" {
		return api.Mark{}, passed
	}
	return api.Mark{Kind: api.MarkText, Text: text}, told
}
