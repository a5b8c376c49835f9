package proxy

import (
	"colander/api"
	"colander/chunk"
	"colander/framing"
	"colander/harden"
	"colander/head"
)

// Client takes the client's bytes: how many (P2).
func (m *Machine) Client(b []byte) int {
	if m.phase != inHead && m.phase != inBody || len(m.out) > 0 {
		return 0
	}
	return m.take(b)
}

// takeHead takes bytes of a request's head, and at once those of its body.
func (m *Machine) takeHead(b []byte) int {
	n := m.head.Take(b)
	switch {
	case m.head.Err() != api.OK:
		m.fail(400)
	case m.head.Done() && m.begins():
		n += m.takeBody(b[n:])
	}
	return n
}

// begins reads the request's head: does its body begin?
func (m *Machine) begins() bool {
	q, err := head.Request(m.head.Text())
	if err != nil {
		m.fail(400)
		return false
	}
	body, e := framing.Request(q)
	if e != api.OK {
		m.refuse(e)
		return false
	}
	m.request, m.kind, m.body = q, body.Kind, chunk.New(body)
	m.enter(inBody)
	return true
}

// refuse fails for a request's body that may not be.
func (m *Machine) refuse(e api.Errno) {
	if e == api.ErrBody {
		m.fail(413)
	} else {
		m.fail(400)
	}
}

// takeBody takes bytes of a request's body.
func (m *Machine) takeBody(b []byte) int {
	meant, n := m.body.Take(b)
	m.meant = append(m.meant, meant...)
	switch {
	case m.body.Err() != api.OK:
		m.refuse(m.body.Err())
	case m.body.Done():
		m.whole()
	}
	return n
}

// whole sends a request on.
func (m *Machine) whole() {
	length := len(m.meant)
	if m.kind == api.BodyNone {
		length = -1
	}
	text := head.RequestText(harden.Forward(m.request, length))
	if text == "" {
		m.fail(400)
		return
	}
	m.upOut = append([]byte(text), m.meant...)
	m.requests++
	m.fate = upKeep
	m.last = m.last || !harden.Keeps(m.request.Fields)
	m.head, m.body, m.meant = head.New(), nil, nil
	m.enter(inAwait)
}

// ClientEnd is the end of the client's sending (P2).
func (m *Machine) ClientEnd() {
	switch m.phase {
	case inHead:
		m.leave(400)
	case inBody:
		m.fail(400)
	case inAwait, inPage, inStream:
		m.last = true
	}
}

// ClientBreak is the client's breaking off (P2).
func (m *Machine) ClientBreak() {
	if m.phase != inOver {
		m.abort()
		return
	}
	m.end, m.out, m.upOut = api.Aborted, nil, nil
}
