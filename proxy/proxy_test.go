package proxy

import (
	"math"
	"math/rand"
	"strings"
	"testing"

	"colander/api"
	"colander/chunk"
	"colander/harden"
	"colander/wash"
)

const get = "GET / HTTP/1.1\r\nHost: a\r\n\r\n"

// want is how a machine stands.
type want struct {
	phase, end, fate, requests, answers int
	out, upOut                          string
}

func check(t *testing.T, what string, m *Machine, w want) {
	t.Helper()
	g := want{m.Phase(), m.End(), m.UpFate(), m.Requests(), m.Answers(), string(m.Out()), string(m.UpOut())}
	if g != w {
		t.Errorf("%s: %+.600v; not %+.600v", what, g, w)
	}
}

// asked is a machine that awaits the answer to a request.
func asked(t *testing.T, request string) *Machine {
	t.Helper()
	m := New()
	if n := m.Client([]byte(request)); n != len(request) || m.Phase() != inAwait {
		t.Fatalf("Client(%q): %d, phase %d", request, n, m.Phase())
	}
	m.UpOutDone(len(m.UpOut()))
	return m
}

func fail(status int) string { return string(harden.Fail(status, false)) }

const nosniff = "X-Content-Type-Options: nosniff\r\n"

// P1, and the document's examples.
func TestExamples(t *testing.T) {
	m := New()
	check(t, "New", m, want{})
	if m.Held() != 0 {
		t.Errorf("Held: %d", m.Held())
	}
	if n := m.Client([]byte(get)); n != len(get) {
		t.Errorf("Client: %d", n)
	}
	check(t, "Client", m, want{phase: inAwait, requests: 1, upOut: get})
	m.UpOutDone(27)
	response := "HTTP/1.1 200 OK\r\nContent-Length: 2\r\n\r\nhi"
	if n := m.Up([]byte(response + "!")); n != len(response) {
		t.Errorf("Up: %d", n)
	}
	check(t, "Up", m, want{requests: 1, answers: 1, out: "HTTP/1.1 200 OK\r\n" + nosniff + "Content-Length: 2\r\n\r\nhi"})
	m = New()
	if n := m.Client([]byte("x\n")); n != 2 {
		t.Errorf("Client: %d", n)
	}
	check(t, "a wrong head", m, want{phase: inOver, end: api.Closing, fate: 1, answers: 1, out: fail(400)})
	m = asked(t, get)
	for i := 0; i < 10; i++ {
		m.Tick()
	}
	check(t, "ten ticks", m, want{phase: inAwait, requests: 1})
	m.Tick()
	check(t, "eleven ticks", m, want{phase: inOver, end: api.Closing, fate: 2, requests: 1, answers: 1, out: fail(504)})
}

// P2: requests that are whole, in any pieces, and what goes upstream.
func TestClient(t *testing.T) {
	for _, a := range []struct{ in, up string }{
		{get, get}, {get + get, get}, {"POST /x HTTP/1.1\r\nHost: a\r\nContent-Length: 3\r\n\r\nabcd", "POST /x HTTP/1.1\r\nHost: a\r\nContent-Length: 3\r\n\r\nabc"}, {"POST / HTTP/1.1\r\nHost: a\r\nContent-Length: 0\r\n\r\n", "POST / HTTP/1.1\r\nHost: a\r\nContent-Length: 0\r\n\r\n"}, {"POST / HTTP/1.1\r\nHost: a\r\nTransfer-Encoding: chunked\r\nTE: x\r\n\r\n2\r\nab\r\n1\r\nc\r\n0\r\nT: u\r\n\r\nx", "POST / HTTP/1.1\r\nHost: a\r\nContent-Length: 3\r\n\r\nabc"}, {"GET / HTTP/1.1\r\nConnection: b, Host\r\nHost: a\r\nB: c\r\nExpect: x\r\n\r\n", get},
	} {
		for piece := 1; piece < len(a.in)+1; piece += 1 + piece/3 {
			m := New()
			taken := 0
			for i := 0; i < len(a.in); i += piece {
				taken += m.Client([]byte(a.in[i:min(i+piece, len(a.in))]))
			}
			check(t, "by pieces", m, want{phase: inAwait, requests: 1, upOut: a.up})
			if whole := New().Client([]byte(a.in)); taken != whole {
				t.Errorf("%q by %d: %d bytes, not %d", a.in, piece, taken, whole)
			}
		}
	}
	m := New()
	m.Client([]byte("GET / HTTP/1.1\r\nHost: a\r\nContent-Length: 5\r\n\r\nab"))
	check(t, "half a body", m, want{phase: inBody})
	if m.Held() != 2 {
		t.Errorf("Held: %d", m.Held())
	}
	m = New()
	m.Client([]byte("GET"))
	if m.Held() != 3 {
		t.Errorf("Held: %d", m.Held())
	}
}

// P2: requests that are refused.
func TestClientRefused(t *testing.T) {
	const h = "POST / HTTP/1.1\r\nHost: a\r\n"
	for _, a := range []struct {
		in     string
		status int
		n      int
	}{
		{"GET / HTTP/1.0\r\nHost: a\r\n\r\n", 400, -1}, {"\r\n", 400, 2}, {"GET / HTTP/1.1\r\n\r\n", 400, -1}, {"GET /\rx", 400, 7}, {strings.Repeat("x", 3000), 400, api.MaxHead}, {h + "Content-Length: 5\r\nTransfer-Encoding: chunked\r\n\r\n", 400, -1}, {h + "Content-Length: 5, 6\r\n\r\n", 400, -1}, {h + "Content-Length: 8193\r\n\r\n", 413, -1}, {h + "Content-Length: 9223372036854775808\r\n\r\n", 400, -1}, {h + "Transfer-Encoding: gzip\r\n\r\n", 400, -1}, {h + "Transfer-Encoding: chunked\r\n\r\nx\r\n", 400, -1}, {h + "Transfer-Encoding: chunked\r\n\r\n2001\r\n", 413, -1}, {h + " x: y\r\n\r\n", 400, -1}, {h + "x : y\r\n\r\n", 400, -1}, {"GET / HTTP/1.1\r\nHost: a\r\nA:" + strings.Repeat("\r\nA:", 29) + "\r\nTransfer-Encoding: chunked\r\n\r\n0\r\n\r\n", 0, -1}, {"HEAD /  HTTP/1.1\r\nHost: a\r\n\r\n", 400, -1},
	} {
		m := New()
		n := m.Client([]byte(a.in))
		if a.status == 0 {
			if m.Phase() != inAwait {
				t.Errorf("Client(%.80q): phase %d", a.in, m.Phase())
			}
			continue
		}
		check(t, a.in[:min(len(a.in), 80)], m, want{phase: inOver, end: api.Closing, fate: 1, answers: 1, out: fail(a.status)})
		if a.n < 0 {
			a.n = len(a.in)
		}
		if n != a.n || m.Client([]byte(get)) != 0 {
			t.Errorf("Client(%.80q): %d bytes, not %d", a.in, n, a.n)
		}
	}
	// A head that is long enough already has no text with a blank and a length more.
	long := "POST / HTTP/1.1\r\nHost: a\r\nTransfer-Encoding:chunked\r\nX:"
	long += strings.Repeat("y", api.MaxHead-4-len(long)) + "\r\n\r\n"
	m := New()
	m.Client([]byte(long + "0\r\n\r\n"))
	if len(long) != api.MaxHead || m.Phase() != inAwait {
		t.Errorf("a long head: %d, phase %d", len(long), m.Phase())
	}
	long = "POST / HTTP/1.1\r\nHost: a\r\nX:"
	long += strings.Repeat("y", api.MaxHead-4-len(long)) + "\r\n\r\n"
	m = New()
	m.Client([]byte(long))
	check(t, "a head that has no text", m, want{phase: inOver, end: api.Closing, fate: 1, answers: 1, out: fail(400)})
}

// P2: the client's end, and its breaking off, in each phase.
func TestClientEnd(t *testing.T) {
	m := New()
	m.ClientEnd()
	check(t, "HEAD, nothing taken", m, want{phase: inOver, end: api.Closing, fate: 1})
	m.ClientEnd()
	check(t, "OVER", m, want{phase: inOver, end: api.Closing, fate: 1})
	m = New()
	m.Client([]byte("G"))
	m.ClientEnd()
	check(t, "HEAD", m, want{phase: inOver, end: api.Closing, fate: 1, answers: 1, out: fail(400)})
	m.ClientBreak()
	check(t, "break in OVER", m, want{phase: inOver, end: api.Aborted, fate: 1, answers: 1})
	m = New()
	m.Client([]byte("GET / HTTP/1.1\r\nHost: a\r\nContent-Length: 5\r\n\r\nab"))
	m.ClientEnd()
	check(t, "BODY", m, want{phase: inOver, end: api.Closing, fate: 1, answers: 1, out: fail(400)})
	m = asked(t, get)
	m.ClientEnd()
	check(t, "AWAIT", m, want{phase: inAwait, requests: 1})
	m.Up([]byte("HTTP/1.1 204 x\r\n\r\n"))
	check(t, "the last one", m, want{phase: inOver, end: api.Closing, fate: 1, requests: 1, answers: 1, out: "HTTP/1.1 204 x\r\n" + nosniff + "Connection: close\r\n\r\n"})
	m = New()
	m.Client([]byte(get))
	m.ClientBreak()
	check(t, "break in AWAIT", m, want{phase: inOver, end: api.Aborted, fate: 2, requests: 1})
	m = New()
	m.ClientBreak()
	check(t, "break in HEAD", m, want{phase: inOver, end: api.Aborted, fate: 2})
}

// P3: what is no page passes, by a length or by chunks.
func TestStream(t *testing.T) {
	for _, a := range []struct {
		request, response, out string
		end, fate              int
	}{
		{get, "HTTP/1.1 200 OK\r\nContent-Length: 5\r\n\r\n<p>ab", "HTTP/1.1 200 OK\r\n" + nosniff + "Content-Length: 5\r\n\r\n<p>ab", 0, 0}, {get, "HTTP/1.1 200 OK\r\nA: b\r\nTransfer-Encoding: chunked\r\n\r\n2;x\r\nab\r\n1\r\nc\r\n0\r\nT: u\r\n\r\n", "HTTP/1.1 200 OK\r\nA: b\r\n" + nosniff + "Transfer-Encoding: chunked\r\n\r\n3\r\nabc\r\n0\r\n\r\n", 0, 0}, {get, "HTTP/1.1 304 x\r\nContent-Length: 9\r\n\r\n", "HTTP/1.1 304 x\r\n" + nosniff + "\r\n", 0, 0}, {get, "HTTP/1.1 200 x\r\nContent-Length: 0\r\nConnection: close\r\n\r\n", "HTTP/1.1 200 x\r\n" + nosniff + "Content-Length: 0\r\n\r\n", 0, 1}, {get, "HTTP/1.1 200 x\r\nTransfer-Encoding: chunked\r\n\r\n0\r\n\r\n", "HTTP/1.1 200 x\r\n" + nosniff + "Transfer-Encoding: chunked\r\n\r\n0\r\n\r\n", 0, 0},
		{"HEAD / HTTP/1.1\r\nHost: a\r\n\r\n", "HTTP/1.1 200 x\r\nContent-Length: 9999999\r\n\r\n", "HTTP/1.1 200 x\r\n" + nosniff + "\r\n", 0, 0}, {"GET / HTTP/1.1\r\nHost: a\r\nConnection: Close\r\n\r\n", "HTTP/1.1 200 x\r\nContent-Length: 1\r\n\r\na", "HTTP/1.1 200 x\r\n" + nosniff + "Content-Length: 1\r\nConnection: close\r\n\r\na", api.Closing, 1},
	} {
		m := asked(t, a.request)
		if n := m.Up([]byte(a.response + "HTTP")); n != len(a.response) {
			t.Errorf("Up(%q): %d", a.response, n)
		}
		phase := inHead
		if a.end != 0 {
			phase = inOver
		}
		check(t, a.response, m, want{phase: phase, end: a.end, fate: a.fate, requests: 1, answers: 1, out: a.out})
	}
}

// P3: a body up to the connection's end is chunks, each of what came.
func TestClose(t *testing.T) {
	m := asked(t, get)
	m.Up([]byte("HTTP/1.1 200 OK\r\n\r\nab"))
	head := "HTTP/1.1 200 OK\r\n" + nosniff + "Transfer-Encoding: chunked\r\n\r\n"
	check(t, "the first ones", m, want{phase: inStream, requests: 1, answers: 1, out: head + "2\r\nab\r\n"})
	if m.Up([]byte("c")) != 0 {
		t.Errorf("Up takes while OUT is not empty")
	}
	if m.Held() != len(head)+7 {
		t.Errorf("Held: %d", m.Held())
	}
	m.OutDone(len(head) + 7)
	if m.Up([]byte("c")) != 1 || string(m.Out()) != "1\r\nc\r\n" {
		t.Errorf("Up: %q", m.Out())
	}
	m.UpEnd()
	check(t, "the end", m, want{requests: 1, answers: 1, fate: 1, out: "1\r\nc\r\n0\r\n\r\n"})
	m.OutDone(-1)
	m.OutDone(0)
	m.OutDone(4)
	if string(m.Out()) != "\r\n0\r\n\r\n" {
		t.Errorf("OutDone: %q", m.Out())
	}
	m.OutDone(math.MaxInt)
	if len(m.Out()) != 0 || m.Held() != 0 {
		t.Errorf("OutDone: %q", m.Out())
	}
}

const fixed = "Content-Type: text/html; charset=utf-8\r\nContent-Security-Policy: default-src 'none'; base-uri 'none'; form-action 'none'; sandbox\r\n" + nosniff

func page(body, charset string) string {
	p, _ := wash.Page([]byte(body), charset)
	return "Content-Length: " + itoa(len(p)) + "\r\n\r\n" + string(p)
}

func itoa(n int) string {
	if n < 10 {
		return string(rune('0' + n))
	}
	return itoa(n/10) + string(rune('0'+n%10))
}

// P3: pages, by each way of ending, in any pieces.
func TestPage(t *testing.T) {
	body := "<p>a<script>x</script>\xE4"
	for _, a := range []struct {
		head, body string
		end        bool
		out        string
		fate       int
	}{
		{"Content-Type: text/html\r\n", body, true, "HTTP/1.1 200 OK\r\n" + fixed + page(body, ""), 1}, {"Content-Type: text/html; charset=utf-8\r\nContent-Length: " + itoa(len(body)) + "\r\nETag: x\r\nS: t\r\n", body, false, "HTTP/1.1 200 OK\r\nS: t\r\n" + fixed + page(body, "utf-8"), 0}, {"Content-Type: text/html\r\nTransfer-Encoding: chunked\r\n", string(chunk.Chunk([]byte(body))) + "0\r\n\r\n", false, "HTTP/1.1 200 OK\r\n" + fixed + page(body, ""), 0}, {"Content-Type: text/html\r\nContent-Length: 0\r\nConnection: close\r\n", "", false, "HTTP/1.1 200 OK\r\n" + fixed + page("", ""), 1},
	} {
		response := "HTTP/1.1 200 OK\r\n" + a.head + "\r\n" + a.body
		for _, piece := range []int{1, 2, 7, 30, 1000} {
			m := asked(t, get)
			for i := 0; i < len(response); i += piece {
				b := []byte(response[i:min(i+piece, len(response))])
				if n := m.Up(b); n != len(b) {
					t.Fatalf("Up(%q): %d", b, n)
				}
			}
			if a.end {
				if m.Held() != len(body) || m.Phase() != inPage {
					t.Errorf("Held: %d, phase %d", m.Held(), m.Phase())
				}
				m.UpEnd()
			}
			check(t, a.head, m, want{requests: 1, answers: 1, fate: a.fate, out: a.out})
		}
	}
	for _, a := range []struct{ request, response, out string }{{"HEAD / HTTP/1.1\r\nHost: a\r\n\r\n", "HTTP/1.1 200 OK\r\nContent-Type: text/html\r\nContent-Length: 5\r\n\r\n", "HTTP/1.1 200 OK\r\n" + fixed + "\r\n"}, {get, "HTTP/1.1 204 \r\nContent-Type: text/html\r\n\r\n", "HTTP/1.1 204 \r\n" + fixed + "\r\n"}} {
		m := asked(t, a.request)
		m.Up([]byte(a.response))
		check(t, a.response, m, want{requests: 1, answers: 1, out: a.out})
	}
	m := asked(t, "GET / HTTP/1.1\r\nHost: a\r\nConnection: close\r\n\r\n")
	m.Up([]byte("HTTP/1.1 200 OK\r\nContent-Type: text/html\r\nContent-Length: 1\r\n\r\nz"))
	check(t, "the last one", m, want{phase: inOver, end: api.Closing, fate: 1, requests: 1, answers: 1, out: "HTTP/1.1 200 OK\r\n" + fixed + strings.Replace(page("z", ""), "\r\n\r\n", "\r\nConnection: close\r\n\r\n", 1)})
}

// P3: responses that can't be read get 502 in their place; the upstream is aborted.
func TestUpFails(t *testing.T) {
	long := strings.Repeat("x", api.MaxBody+1)
	for _, a := range []struct {
		response string
		end      int // 1: the upstream ends behind it; 2: it breaks off
	}{
		{"x\n", 0}, {"HTTP/1.1 101 x\r\n\r\n", 0}, {"HTTP/1.0 200 x\r\n\r\n", 0}, {"HTTP/1.1 200 x\r\nContent-Length: 1\r\nTransfer-Encoding: chunked\r\n\r\n", 0}, {"HTTP/1.1 200 x\r\nContent-Length: 8193\r\n\r\n", 0}, {"HTTP/1.1 200 x\r\nTransfer-Encoding: gzip, chunked\r\n\r\n", 0}, {"HTTP/1.1 200 x\r\nContent-Type: text/xml\r\n\r\n", 0}, {"HTTP/1.1 200 x\r\nContent-Type: text/html\r\nContent-Encoding: gzip\r\n\r\n", 0}, {strings.Repeat("x", 3000), 0}, {"HTTP/1.1 200 x\r\nA : b\r\n\r\n", 0}, {"HTTP/1.1 200 x\r\n A: b\r\n\r\n", 0},
		{"HTTP/1.1 200 x\r\nContent-Type: text/html; charset=utf-16\r\nContent-Length: 1\r\n\r\na", 0}, {"HTTP/1.1 200 x\r\nContent-Type: text/html\r\n\r\n" + long, 0}, {"HTTP/1.1 200 x\r\nContent-Type: text/html\r\nTransfer-Encoding: chunked\r\n\r\nx\r\n", 0}, {"HTTP/1.1 200 x\r\nContent-Type: text/html\r\nContent-Length: 9\r\n\r\na", 1}, {"HTTP/1.1 200 x\r\nContent-Type: text/html\r\nContent-Length: 9\r\n\r\na", 2}, {"HTTP/1.1 200 x\r\nContent-Type: text/html\r\n\r\na", 2}, {"HTTP/1.1 200 x\r\nContent-Type: text/html\r\n\r\n" + strings.Repeat("<br>", 1000), 1}, {"", 1}, {"", 2}, {"HTTP/1.1 200 x\r\n", 1}, {"HTTP/1.1 200 x\r\nA:" + strings.Repeat("b", 2020) + "\r\n\r\n", 0}, {"HTTP/1.1 200 x\r\nContent-Type:text/html\r\nContent-Length:0\r\nA:" + strings.Repeat("b", 1950) + "\r\n\r\n", 0},
	} {
		for _, head := range []bool{false, true} {
			request := get
			if head {
				request = "HEAD / HTTP/1.1\r\nHost: a\r\n\r\n"
			}
			m := asked(t, request)
			m.Up([]byte(a.response))
			switch a.end {
			case 1:
				m.UpEnd()
			case 2:
				m.UpBreak()
			}
			if head && m.Phase() == inHead {
				continue // a response without a body may be right then
			}
			check(t, a.response[:min(len(a.response), 60)], m, want{phase: inOver, end: api.Closing, fate: 2, requests: 1, answers: 1, out: string(harden.Fail(502, head))})
			if m.Up([]byte("x")) != 0 {
				t.Errorf("Up in OVER")
			}
		}
	}
}

// P3: what was given out already breaks off.
func TestAborts(t *testing.T) {
	for _, a := range []struct {
		response string
		do       func(m *Machine)
	}{
		{"HTTP/1.1 200 x\r\nTransfer-Encoding: chunked\r\n\r\n1\r\na\r\nz\r\n", func(m *Machine) {}}, {"HTTP/1.1 200 x\r\nContent-Length: 5\r\n\r\na", (*Machine).UpEnd}, {"HTTP/1.1 200 x\r\nContent-Length: 5\r\n\r\na", (*Machine).UpBreak}, {"HTTP/1.1 200 x\r\n\r\na", (*Machine).UpBreak}, {"HTTP/1.1 200 x\r\n\r\n" + strings.Repeat("x", api.MaxBody+1), func(m *Machine) {}}, {"HTTP/1.1 200 x\r\nTransfer-Encoding: chunked\r\n\r\n0\r\n", (*Machine).UpEnd}, {"HTTP/1.1 200 x\r\n\r\na", (*Machine).ClientBreak},
	} {
		m := asked(t, get)
		m.Up([]byte(a.response))
		a.do(m)
		check(t, a.response[:min(len(a.response), 60)], m, want{phase: inOver, end: api.Aborted, fate: 2, requests: 1, answers: 1})
	}
}

// P3: nothing is read of a response ahead of the request's being written.
func TestUpWaits(t *testing.T) {
	m := New()
	if m.Up([]byte("HTTP")) != 0 {
		t.Errorf("Up in HEAD")
	}
	m.Client([]byte(get))
	m.UpOutDone(26)
	if m.Up([]byte("HTTP")) != 0 || string(m.UpOut()) != "\n" || m.Held() != 1 {
		t.Errorf("Up while UPOUT is not empty")
	}
	m.UpOutDone(-5)
	m.UpOutDone(5)
	if m.Up([]byte("HTTP")) != 4 || m.Held() != 4 {
		t.Errorf("Up: %d are held", m.Held())
	}
	m.Up([]byte("/1.1 200 x\r\nContent-Length: 1\r\n\r\na"))
	if m.Client([]byte(get)) != 0 {
		t.Errorf("Client takes while OUT is not empty")
	}
	m.OutDone(999)
	if m.Client([]byte(get)) != len(get) || m.Requests() != 2 || m.Client([]byte(get)) != 0 {
		t.Errorf("Client")
	}
}

// P3: the upstream's end, and its breaking off, while nothing is asked of it.
func TestUpIdle(t *testing.T) {
	for i, request := range []string{"", "GET", "GET / HTTP/1.1\r\nHost: a\r\nContent-Length: 5\r\n\r\nab"} {
		m := New()
		m.Client([]byte(request))
		phase := m.Phase()
		m.UpEnd()
		check(t, "UpEnd", m, want{phase: phase, fate: 1})
		m.UpBreak()
		check(t, "UpBreak", m, want{phase: phase, fate: 2})
		if i == 2 {
			m.Client([]byte("cde"))
			if m.UpFate() != 0 {
				t.Errorf("FATE behind a whole request: %d", m.UpFate())
			}
		}
	}
	m := New()
	m.ClientEnd()
	m.UpEnd()
	m.UpBreak()
	check(t, "in OVER", m, want{phase: inOver, end: api.Closing, fate: 1})
}

func ticks(m *Machine, n int) {
	for i := 0; i < n; i++ {
		m.Tick()
	}
}

// P4: what becomes of each phase, and what counts as progress.
func TestTick(t *testing.T) {
	m := New()
	ticks(m, 10)
	m.Client(nil)
	ticks(m, 1)
	check(t, "HEAD, nothing taken", m, want{phase: inOver, end: api.Closing, fate: 1})
	m = New()
	ticks(m, 10)
	m.Client([]byte("G"))
	ticks(m, 10)
	check(t, "HEAD", m, want{})
	ticks(m, 1)
	check(t, "HEAD", m, want{phase: inOver, end: api.Closing, fate: 1, answers: 1, out: fail(408)})
	ticks(m, 10)
	m.OutDone(0)
	check(t, "OVER", m, want{phase: inOver, end: api.Closing, fate: 1, answers: 1, out: fail(408)})
	m.OutDone(1)
	ticks(m, 10)
	check(t, "OVER, some written", m, want{phase: inOver, end: api.Closing, fate: 1, answers: 1, out: fail(408)[1:]})
	ticks(m, 1)
	check(t, "OVER, none written", m, want{phase: inOver, end: api.Aborted, fate: 1, answers: 1})
	m = New()
	m.Client([]byte("GET / HTTP/1.1\r\nHost: a\r\nContent-Length: 5\r\n\r\nab"))
	ticks(m, 11)
	check(t, "BODY", m, want{phase: inOver, end: api.Closing, fate: 1, answers: 1, out: fail(408)})
	m = New()
	m.Client([]byte(get))
	ticks(m, 10)
	m.UpOutDone(5)
	ticks(m, 1)
	check(t, "AWAIT", m, want{phase: inOver, end: api.Closing, fate: 2, requests: 1, answers: 1, out: fail(504)})
	m = asked(t, get)
	ticks(m, 10)
	m.Up([]byte("HTTP/1.1 200 x\r\nContent-Type: text/html\r\n\r\n"))
	ticks(m, 10)
	m.Up([]byte("a"))
	ticks(m, 10)
	check(t, "PAGE", m, want{phase: inPage, requests: 1})
	ticks(m, 1)
	check(t, "PAGE", m, want{phase: inOver, end: api.Closing, fate: 2, requests: 1, answers: 1, out: fail(504)})
	m = asked(t, get)
	m.Up([]byte("HTTP/1.1 200 x\r\n\r\n"))
	ticks(m, 10)
	m.OutDone(3)
	ticks(m, 11)
	check(t, "STREAM", m, want{phase: inOver, end: api.Aborted, fate: 2, requests: 1, answers: 1})
	ticks(m, 50)
	check(t, "OVER, nothing to write", m, want{phase: inOver, end: api.Aborted, fate: 2, requests: 1, answers: 1})
	m = asked(t, get)
	ticks(m, 10)
	m.Up([]byte("HTTP/1.1 204 x\r\n\r\n"))
	ticks(m, 10)
	if m.Phase() != inHead {
		t.Errorf("another phase is progress: %d", m.Phase())
	}
	ticks(m, 1)
	check(t, "HEAD, an answer not written", m, want{phase: inOver, end: api.Closing, fate: 1, requests: 1, answers: 1, out: "HTTP/1.1 204 x\r\n" + nosniff + "\r\n"})
}

// R5: what comes out is new memory.
func TestShares(t *testing.T) {
	m := New()
	m.Client([]byte(get))
	m.UpOut()[0] = 'x'
	if string(m.UpOut()) != get {
		t.Errorf("UpOut shares memory")
	}
	m.ClientEnd()
	m.UpEnd()
	m.Out()[0] = 'x'
	if string(m.Out()) != fail(502) {
		t.Errorf("Out shares memory")
	}
}

// What follows: never more held than may be, and never more answers than requests but for one failure; whatever comes.
func TestFollows(t *testing.T) {
	rnd := rand.New(rand.NewSource(23))
	client := []string{get, "POST / HTTP/1.1\r\nHost: a\r\nContent-Length: 3\r\n\r\nabc", "HEAD / HTTP/1.1\r\nHost: a\r\n\r\n", "x", "\r\n", "GET / HTTP/1.1\r\nHost: a\r\nConnection: close\r\n\r\n"}
	up := []string{"HTTP/1.1 200 OK\r\nContent-Length: 2\r\n\r\nhi", "HTTP/1.1 200 OK\r\nContent-Type: text/html\r\n\r\n" + strings.Repeat("<p>a&", 300), "HTTP/1.1 200 OK\r\nTransfer-Encoding: chunked\r\n\r\n1\r\na\r\n", "0\r\n\r\n", "a", "HTTP/1.1 204 x\r\n\r\n", strings.Repeat("&", 3000)}
	for i := 0; i < 5000; i++ {
		m := New()
		for j := 0; j < 30; j++ {
			phase := m.Phase()
			switch rnd.Intn(10) {
			case 0, 1:
				b := client[rnd.Intn(len(client))]
				m.Client([]byte(b[:1+rnd.Intn(len(b))]))
				if phase != inAwait && m.Phase() == inAwait && len(m.Out()) > 0 {
					t.Fatalf("OUT is not empty when a request begins")
				}
			case 2, 3:
				b := up[rnd.Intn(len(up))]
				m.Up([]byte(b[:1+rnd.Intn(len(b))]))
			case 4, 5:
				m.OutDone(rnd.Intn(400))
			case 6, 7:
				m.UpOutDone(rnd.Intn(100))
			case 8:
				m.Tick()
			case 9:
				[]func(m *Machine){(*Machine).ClientEnd, (*Machine).UpEnd, (*Machine).UpBreak, (*Machine).ClientBreak}[rnd.Intn(4)](m)
			}
			if m.Held() > api.MaxHeld || m.Answers() > m.Requests()+1 || m.Answers() > m.Requests() && m.Phase() != inOver {
				t.Fatalf("Held %d, %d answers of %d", m.Held(), m.Answers(), m.Requests())
			}
			if phase == inOver && m.Phase() != inOver {
				t.Fatalf("OVER is not the end")
			}
		}
	}
}
