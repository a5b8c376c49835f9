package proxy

import (
	"colander/api"
	"colander/chunk"
	"colander/framing"
	"colander/harden"
	"colander/head"
	"colander/wash"
)

// Up takes the upstream's bytes: how many (P3).
func (m *Machine) Up(b []byte) int {
	if !m.served() || len(m.upOut) > 0 || m.phase == inStream && len(m.out) > 0 {
		return 0
	}
	return m.take(b)
}

// takeAwait takes bytes of a response's head, and at once those of its body.
func (m *Machine) takeAwait(b []byte) int {
	n := m.head.Take(b)
	switch {
	case m.head.Err() != api.OK:
		m.fail(502)
	case m.head.Done() && m.answered():
		n += m.takes[m.phase](b[n:])
	}
	return n
}

// answered reads the response's head: is its body to be read?
func (m *Machine) answered() bool {
	p, err := head.Response(m.head.Text())
	if err != nil {
		m.fail(502)
		return false
	}
	body, wrong := framing.Response(m.request.Method, p)
	page, charset, e := harden.Kind(p)
	if wrong != api.OK || e != api.OK {
		m.fail(502)
		return false
	}
	m.response, m.charset, m.kind, m.body = p, charset, body.Kind, chunk.New(body)
	switch {
	case page && body.Kind == api.BodyNone:
		if m.tell(harden.Page(p, -1, m.last)) {
			m.finish()
		}
		return false
	case page:
		m.enter(inPage)
		return true
	case m.tell(harden.Plain(p, body, m.last)):
		m.enter(inStream)
		return true
	}
	return false
}

// tell begins an answer with its head; it fails if that has no text.
func (m *Machine) tell(p api.Response) bool {
	text := head.ResponseText(p)
	if text == "" {
		m.fail(502)
		return false
	}
	m.out = append(m.out, text...)
	m.answers++
	return true
}

// takePage takes bytes of a page.
func (m *Machine) takePage(b []byte) int {
	meant, n := m.body.Take(b)
	m.meant = append(m.meant, meant...)
	m.pageGoesOn()
	return n
}

// pageGoesOn fails if the page can't be read, and answers it washed if it is whole.
func (m *Machine) pageGoesOn() {
	switch {
	case m.body.Err() != api.OK:
		m.fail(502)
	case m.body.Done():
		page, e := wash.Page(m.meant, m.charset)
		if e != api.OK {
			m.fail(502)
		} else if m.tell(harden.Page(m.response, len(page), m.last)) {
			m.out = append(m.out, page...)
			m.finish()
		}
	}
}

// takeStream takes bytes of any other body, and gives them out.
func (m *Machine) takeStream(b []byte) int {
	meant, n := m.body.Take(b)
	if m.kind != api.BodyLength {
		meant = chunk.Chunk(meant)
	}
	m.out = append(m.out, meant...)
	m.streamGoesOn()
	return n
}

// streamGoesOn breaks off if the body is wrong, and ends the answer if it is whole.
func (m *Machine) streamGoesOn() {
	switch {
	case m.body.Err() != api.OK:
		m.abort()
	case m.body.Done():
		if m.kind == api.BodyChunked || m.kind == api.BodyClose {
			m.out = append(m.out, chunk.Last()...)
		}
		m.finish()
	}
}

// UpEnd is the end of the upstream's sending (P3).
func (m *Machine) UpEnd() {
	switch m.phase {
	case inHead, inBody:
		m.fate = upClose
	case inAwait:
		m.fail(502)
	case inPage:
		m.body.End()
		m.pageGoesOn()
	case inStream:
		m.body.End()
		m.streamGoesOn()
	}
}

// UpBreak is the upstream's breaking off (P3).
func (m *Machine) UpBreak() {
	switch m.phase {
	case inHead, inBody:
		m.fate = upAbort
	case inAwait, inPage:
		m.fail(502)
	case inStream:
		m.abort()
	}
}
