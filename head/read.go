package head

import (
	"strings"

	"colander/api"
	"colander/lex"
	"colander/num"
)

// wrong is what reading gives up with: the face makes a fault of it.
type wrong struct {
	at  int
	err api.Errno
}

func giveUp(at int, e api.Errno) { panic(wrong{at, e}) }

// fault is the error of what was recovered; a panic that is not reading's own goes on.
func fault(r any) error {
	if r == nil {
		return nil
	}
	if w, ok := r.(wrong); ok {
		return &api.Fault{At: w.at, Err: w.err}
	}
	panic(r)
}

// lines goes over a head line by line.
type lines struct {
	s  string
	at int // where the next line begins
}

func begin(s string) *lines {
	if len(s) > api.MaxHead {
		giveUp(api.MaxHead, api.ErrHead)
	}
	return &lines{s: s}
}

// next is the next line, without its end.
func (r *lines) next() string {
	rest := r.s[r.at:]
	n := strings.IndexAny(rest, "\r\n")
	switch {
	case n < 0:
		giveUp(len(r.s), api.ErrShort)
	case rest[n] == '\n':
		giveUp(r.at+n, api.ErrLine)
	case n+1 == len(rest):
		giveUp(len(r.s), api.ErrShort)
	case rest[n+1] != '\n':
		giveUp(r.at+n, api.ErrLine)
	}
	r.at += n + 2
	return rest[:n]
}

// end gives up if something stands behind the head.
func (r *lines) end() {
	if r.at < len(r.s) {
		giveUp(r.at, api.ErrArg)
	}
}

func (r *lines) requestLine(q *api.Request) {
	m, rest, found := strings.Cut(r.next(), " ")
	if !found || !method(m) {
		giveUp(0, api.ErrMethod)
	}
	at := len(m) + 1
	t, v, found := strings.Cut(rest, " ")
	if !found || !target(t) {
		giveUp(at, api.ErrTarget)
	}
	at += len(t) + 1
	if v != version {
		giveUp(at, api.ErrVersion)
	}
	q.Method, q.Target = m, t
}

func (r *lines) responseLine(p *api.Response) {
	rest, found := strings.CutPrefix(r.next(), version+" ")
	if !found {
		giveUp(0, api.ErrVersion)
	}
	at := len(version) + 1
	if len(rest) < 4 || !made(rest[:3], digit) || rest[3] != ' ' {
		giveUp(at, api.ErrStatus)
	}
	n, _ := num.Decimal(rest[:3])
	if !status(int(n)) {
		giveUp(at, api.ErrStatus)
	}
	reason := rest[4:]
	if i := control(reason); i >= 0 {
		giveUp(at+4+i, api.ErrValue)
	}
	p.Status, p.Reason = int(n), reason
}

// fields reads all further lines, the empty one too.
func (r *lines) fields() []api.Field {
	var l []api.Field
	for {
		at := r.at
		line := r.next()
		if line == "" {
			return l
		}
		if len(l) == api.MaxFields {
			giveUp(at, api.ErrFields)
		}
		l = append(l, field(line, at))
	}
}

// field reads the line that begins at that place.
func field(line string, at int) api.Field {
	if line[0] == ' ' || line[0] == '\t' {
		giveUp(at, api.ErrFold)
	}
	name, value, found := strings.Cut(line, ":")
	if !found {
		giveUp(at, api.ErrName)
	}
	if n := len(strings.TrimRight(name, " \t")); n < len(name) {
		giveUp(at+n, api.ErrBlank)
	}
	if !lex.Token(name) {
		giveUp(at, api.ErrName)
	}
	if i := control(value); i >= 0 {
		giveUp(at+len(name)+1+i, api.ErrValue)
	}
	return api.Field{Name: name, Value: lex.Trim(value)}
}

// Reader takes a head piece by piece.
type Reader struct {
	text []byte
	done bool
	err  api.Errno
}

// New is one that has nothing yet (H4).
func New() *Reader { return &Reader{} }

// Take takes bytes up to the head's end: how many (H4).
func (r *Reader) Take(b []byte) int {
	n := 0
	for n < len(b) && !r.done && r.err == api.OK {
		r.take(b[n])
		n++
	}
	return n
}

func (r *Reader) take(c byte) {
	behind := len(r.text) > 0 && r.text[len(r.text)-1] == '\r'
	r.text = append(r.text, c)
	switch {
	case behind != (c == '\n'):
		r.err = api.ErrLine
	case c == '\n' && r.whole():
		r.done = true
	case len(r.text) == api.MaxHead:
		r.err = api.ErrHead
	}
}

// whole tells whether the last line that ended is the empty one.
func (r *Reader) whole() bool {
	return len(r.text) == 2 || len(r.text) > 3 && string(r.text[len(r.text)-4:]) == "\r\n\r\n"
}

// Done tells whether it is whole (H4).
func (r *Reader) Done() bool { return r.done }

// Err tells what is wrong already (H4).
func (r *Reader) Err() api.Errno { return r.err }

// Text is all that it took (H4).
func (r *Reader) Text() string { return string(r.text) }
