package loop

import (
	"math"
	"math/rand"
	"reflect"
	"strings"
	"testing"

	"colander/api"
	"colander/build"
	"colander/chunk"
	"colander/fields"
	"colander/framing"
	"colander/harden"
	"colander/head"
	"colander/policy"
	"colander/wash"
)

const (
	get     = "GET / HTTP/1.1\r\nHost: a\r\n\r\n"
	nosniff = "X-Content-Type-Options: nosniff\r\n"
)

func config() api.Config { return api.Config{In: 100, Out: 100, Read: 50} }

func do(kind int, args ...any) api.Step {
	s := api.Step{Do: kind}
	for i, a := range args {
		switch x := a.(type) {
		case string:
			s.Bytes = []byte(x)
		case int:
			if i == 0 {
				s.Conn = x
			} else {
				s.N = x
			}
		}
	}
	return s
}

// all does steps that may not be refused.
func all(t *testing.T, l *Loop, steps ...api.Step) {
	t.Helper()
	for _, s := range steps {
		if e := l.Do(s); e != api.OK {
			t.Fatalf("Do(%+v): %d", s, e)
		}
	}
}

func ticks(n int) []api.Step {
	var l []api.Step
	for i := 0; i < n; i++ {
		l = append(l, do(api.DoTick))
	}
	return l
}

// R1: which configurations may be.
func TestRight(t *testing.T) {
	for _, c := range []api.Config{{In: 1, Out: 1, Read: 1}, {In: 4096, Out: 4096, Read: 1024}, config()} {
		if !Right(c) || New(c) == nil {
			t.Errorf("Right(%+v)", c)
		}
	}
	for _, c := range []api.Config{{}, {In: 0, Out: 1, Read: 1}, {In: 1, Out: 0, Read: 1}, {In: 1, Out: 1, Read: 0}, {In: 4097, Out: 1, Read: 1}, {In: 1, Out: 4097, Read: 1}, {In: 1, Out: 1, Read: 1025}, {In: -1, Out: 1, Read: 1}, {In: math.MaxInt, Out: math.MinInt, Read: 5}} {
		if Right(c) || New(c) != nil || !reflect.DeepEqual(Run(c, []api.Step{do(api.DoOpen)}), api.Log{}) {
			t.Errorf("Right(%+v)", c)
		}
	}
}

// The document's example.
func TestExample(t *testing.T) {
	l := New(config())
	all(t, l, do(api.DoOpen), do(api.DoFeed, 0, get), do(api.DoPick, 0))
	log := l.Log()
	if len(log.Upstreams) != 1 || string(log.Upstreams[0].Written) != get || log.Upstreams[0].Client != 0 {
		t.Errorf("upstream: %+v", log.Upstreams)
	}
	all(t, l, do(api.DoUpFeed, 0, "HTTP/1.1 204 x\r\n\r\n"), do(api.DoPick, 0))
	log = l.Log()
	c := log.Clients[0]
	if string(c.Written) != "HTTP/1.1 204 x\r\n"+nosniff+"\r\n" || c.Requests != 1 || c.Answers != 1 || c.State != api.Open || log.Upstreams[0].State != api.Open {
		t.Errorf("client: %+v", c)
	}
	all(t, l, ticks(11)...)
	log = l.Log()
	if log.Clients[0].State != api.Closing || log.Upstreams[0].State != api.Closing {
		t.Errorf("eleven ticks: %+v", log)
	}
	all(t, l, do(api.DoTake, 0, 999))
	if s := l.Log().Clients[0].State; s != api.Closed {
		t.Errorf("taken: %d", s)
	}
}

// R2: steps that are refused, and that change nothing.
func TestRefused(t *testing.T) {
	l := New(config())
	all(t, l, do(api.DoOpen))
	n := 0
	for _, a := range []struct {
		s api.Step
		e api.Errno
	}{
		{do(-1), api.ErrArg}, {do(api.Dos), api.ErrArg}, {do(99, 0), api.ErrArg}, {do(math.MinInt), api.ErrArg}, {do(api.DoFeed, 1, "x"), api.ErrArg}, {do(api.DoFeed, -1, "x"), api.ErrArg}, {do(api.DoPick, 1), api.ErrArg}, {do(api.DoUpFeed, 1, "x"), api.ErrArg}, {do(api.DoTake, math.MaxInt), api.ErrArg},
		{do(api.DoUpFeed, 0, "x"), api.ErrNone}, {do(api.DoUpEnd, 0), api.ErrNone}, {do(api.DoUpBreak, 0), api.ErrNone}, {do(api.DoUpTake, 0, 1), api.ErrNone},
	} {
		n++
		if e := l.Do(a.s); e != a.e || l.Log().Refused != n {
			t.Errorf("Do(%+v): %d; %d are refused", a.s, e, l.Log().Refused)
		}
	}
	for i := 1; i < api.MaxConns; i++ {
		all(t, l, do(api.DoOpen, 77))
	}
	if e := l.Do(do(api.DoOpen)); e != api.ErrOpen {
		t.Errorf("one more: %d", e)
	}
	all(t, l, do(api.DoTick, -5), do(api.DoTick, 99))
	if log := l.Log(); len(log.Clients) != api.MaxConns || len(log.Upstreams) != 0 || log.Refused != n+1 {
		t.Errorf("Log: %+v", log)
	}
}

// R2: what goes in by pieces, with buffers of one byte.
func TestSmall(t *testing.T) {
	l := New(api.Config{In: 1, Out: 1, Read: 1})
	all(t, l, do(api.DoOpen))
	answer := "HTTP/1.1 200 x\r\nContent-Length: 2\r\n\r\nab"
	for i := range get {
		all(t, l, do(api.DoFeed, 0, get[i:i+1]), do(api.DoPick, 0))
	}
	for i := 0; i < 99; i++ {
		all(t, l, do(api.DoUpTake, 0, 1), do(api.DoPick, 0))
	}
	for i := 0; i < len(answer); i++ {
		all(t, l, do(api.DoUpFeed, 0, answer[i:i+1]), do(api.DoPick, 0), do(api.DoTake, 0, 1))
		for j := 0; j < 99 && i == len(answer)-2; j++ {
			all(t, l, do(api.DoTake, 0, 1), do(api.DoPick, 0))
		}
	}
	for i := 0; i < 99; i++ {
		all(t, l, do(api.DoTake, 0, 1), do(api.DoPick, 0))
	}
	log := l.Log()
	if string(log.Upstreams[0].Written) != get || string(log.Clients[0].Written) != "HTTP/1.1 200 x\r\n"+nosniff+"Content-Length: 2\r\n\r\nab" {
		t.Errorf("Log: %q, %q", log.Upstreams[0].Written, log.Clients[0].Written)
	}
}

// R2: an upstream is asked again; one that said something unasked, or ended, is not.
func TestAgain(t *testing.T) {
	const answer = "HTTP/1.1 200 x\r\nContent-Length: 1\r\n\r\n"
	for _, a := range []struct {
		between []api.Step
		ups     int
		state   int
	}{
		{nil, 1, api.Open}, {[]api.Step{do(api.DoUpFeed, 0, "HTTP/1.1 200 evil\r\n\r\n")}, 2, api.Aborted}, {[]api.Step{do(api.DoUpEnd, 0)}, 2, api.Aborted}, {[]api.Step{do(api.DoUpBreak, 0)}, 2, api.Aborted}, {[]api.Step{do(api.DoUpEnd, 0), do(api.DoPick, 0)}, 2, api.Closing}, {[]api.Step{do(api.DoUpBreak, 0), do(api.DoPick, 0)}, 2, api.Aborted}, {[]api.Step{do(api.DoUpFeed, 0, "x"), do(api.DoPick, 0)}, 2, api.Aborted},
	} {
		l := New(config())
		all(t, l, do(api.DoOpen), do(api.DoFeed, 0, get), do(api.DoPick, 0), do(api.DoUpFeed, 0, answer+"a"), do(api.DoPick, 0))
		all(t, l, a.between...)
		all(t, l, do(api.DoFeed, 0, get), do(api.DoPick, 0))
		if n := len(l.Log().Upstreams); n != a.ups {
			t.Errorf("%+v: %d upstreams", a.between, n)
			continue
		}
		all(t, l, do(api.DoUpTake, 0, 99), do(api.DoUpFeed, 0, answer+"b"), do(api.DoPick, 0), do(api.DoTake, 0, 99), do(api.DoPick, 0), do(api.DoPick, 0))
		log := l.Log()
		one := "HTTP/1.1 200 x\r\n" + nosniff + "Content-Length: 1\r\n\r\n"
		if string(log.Clients[0].Written) != one+"a"+one+"b" || log.Upstreams[0].State != a.state {
			t.Errorf("%+v: %q, upstream %d", a.between, log.Clients[0].Written, log.Upstreams[0].State)
		}
	}
}

// R2: a client is settled first: what it took makes room for the answer's rest, and the next request is read at once.
func TestSettledFirst(t *testing.T) {
	l := New(api.Config{In: 100, Out: 50, Read: 100})
	all(t, l, do(api.DoOpen), do(api.DoFeed, 0, get), do(api.DoPick, 0), do(api.DoUpTake, 0, 99), do(api.DoUpFeed, 0, "HTTP/1.1 204 x\r\n\r\n"), do(api.DoPick, 0), do(api.DoFeed, 0, get))
	all(t, l, do(api.DoPick, 0))
	if n := l.Log().Clients[0].Requests; n != 1 {
		t.Errorf("a request is read while the answer is not written: %d", n)
	}
	all(t, l, do(api.DoTake, 0, 50), do(api.DoPick, 0))
	if log := l.Log(); log.Clients[0].Requests != 2 || len(log.Upstreams[0].Written) != 2*len(get) {
		t.Errorf("the next request: %+v", log)
	}
}

// R2: an upstream that breaks off while its answer is awaited.
func TestUpBreaks(t *testing.T) {
	l := New(api.Config{In: 200, Out: 200, Read: 100})
	all(t, l, do(api.DoOpen), do(api.DoFeed, 0, get), do(api.DoPick, 0), do(api.DoUpFeed, 0, "HTTP"), do(api.DoUpBreak, 0), do(api.DoPick, 0))
	if log := l.Log(); string(log.Clients[0].Written) != string(harden.Fail(502, false)) || log.Clients[0].State != api.Closing || log.Upstreams[0].State != api.Aborted {
		t.Errorf("Log: %+v", log)
	}
	if e := l.Do(do(api.DoUpFeed, 0, "x")); e != api.ErrNone {
		t.Errorf("its upstream: %d", e)
	}
}

// R2: what Arrive does not take is lost; and a client that breaks off.
func TestLost(t *testing.T) {
	l := New(config())
	all(t, l, do(api.DoOpen), do(api.DoOpen), do(api.DoFeed, 1, strings.Repeat("x", 101)))
	for i := 0; i < 9; i++ {
		all(t, l, do(api.DoPick, 1))
	}
	if log := l.Log(); log.Clients[1].Held != 100 || log.Clients[0].Held != 0 {
		t.Errorf("Held: %+v", log.Clients)
	}
	all(t, l, do(api.DoFeed, 0, get), do(api.DoPick, 0), do(api.DoBreak, 0), do(api.DoPick, 0))
	log := l.Log()
	if log.Clients[0].State != api.Aborted || log.Upstreams[0].State != api.Aborted || log.Clients[0].Answers != 0 || log.Clients[0].Requests != 1 {
		t.Errorf("a client that breaks off: %+v", log)
	}
	if e := l.Do(do(api.DoUpFeed, 0, "x")); e != api.ErrNone {
		t.Errorf("its upstream: %d", e)
	}
	all(t, l, do(api.DoEnd, 1), do(api.DoPick, 1))
	if log := l.Log(); !strings.HasPrefix(string(log.Clients[1].Written), "HTTP/1.1 400 ") || log.Clients[1].State != api.Open {
		t.Errorf("a client that ends early: %+v", log.Clients[1])
	}
	all(t, l, do(api.DoTake, 1, 99), do(api.DoPick, 1))
	if log := l.Log(); log.Clients[1].State != api.Closing || string(log.Clients[1].Written) != string(harden.Fail(400, false)) {
		t.Errorf("a client that ends early: %+v", log.Clients[1])
	}
}

// R3, R5: what Log tells is new memory.
func TestLogShares(t *testing.T) {
	l := New(config())
	all(t, l, do(api.DoOpen), do(api.DoFeed, 0, get), do(api.DoPick, 0))
	l.Log().Upstreams[0].Written[0] = 'x'
	l.Log().Clients[0].Requests = 9
	if log := l.Log(); string(log.Upstreams[0].Written) != get || log.Clients[0].Requests != 1 {
		t.Errorf("Log shares memory")
	}
}

// answer is one that was written to a client.
type answer struct {
	head api.Response
	body string
}

// row reads the answers that were written: those that are whole, and whether something is left.
func row(t *testing.T, written string, methods []string) ([]answer, bool) {
	t.Helper()
	var l []answer
	for written != "" {
		n := strings.Index(written, "\r\n\r\n")
		if n < 0 {
			return l, true
		}
		p, err := head.Response(written[:n+4])
		if err != nil {
			t.Fatalf("answer %d is not right: %q", len(l), written)
		}
		method := "GET"
		if len(l) < len(methods) {
			method = methods[len(l)]
		}
		body := api.Body{}
		if method != "HEAD" && p.Status != 204 && p.Status != 304 {
			lengths := fields.All(p.Fields, "content-length")
			chunked := fields.Count(p.Fields, "transfer-encoding")
			if len(lengths)+chunked != 1 {
				t.Fatalf("answer %d has no one framing: %q", len(l), written)
			}
			body.Kind = api.BodyChunked
			if chunked == 0 {
				body = api.Body{Kind: api.BodyLength}
				for _, c := range lengths[0] {
					body.Length = body.Length*10 + int64(c-'0')
				}
			}
		}
		a := answer{head: p}
		written = written[n+4:]
		if body.Kind == api.BodyLength {
			if int64(len(written)) < body.Length {
				return l, true
			}
			a.body, written = written[:body.Length], written[body.Length:]
		} else {
			r := chunk.New(body)
			b, n := r.Take([]byte(written))
			if r.Err() != api.OK {
				t.Fatalf("answer %d is chunked wrongly: %q", len(l), written)
			}
			if !r.Done() {
				return l, true
			}
			a.body, written = string(b), written[n:]
		}
		l = append(l, a)
	}
	return l, false
}

// asked reads the requests that were written to upstreams: their methods, and what is left of the last one of each is half.
func asked(t *testing.T, written string) []string {
	t.Helper()
	var l []string
	for written != "" {
		r := head.New()
		n := r.Take([]byte(written))
		if !r.Done() {
			if r.Err() != api.OK {
				t.Fatalf("a request that is not right: %q", written)
			}
			return l
		}
		q, err := head.Request(r.Text())
		if err != nil || fields.Count(q.Fields, "transfer-encoding") > 0 || fields.Count(q.Fields, "content-length") > 1 {
			t.Fatalf("a request that is not right: %q", written)
		}
		body, _ := framing.Request(q)
		c := chunk.New(body)
		_, k := c.Take([]byte(written[n:]))
		l = append(l, q.Method)
		written = written[n+k:]
	}
	return l
}

// sound checks P1, P2 and P6 of a log.
func sound(t *testing.T, log api.Log) {
	t.Helper()
	for i, c := range log.Clients {
		var methods []string
		for _, u := range log.Upstreams {
			if u.Client == i {
				methods = append(methods, asked(t, string(u.Written))...)
			}
		}
		if len(methods) > c.Requests {
			t.Fatalf("client %d: %d requests went upstream, %d were whole", i, len(methods), c.Requests)
		}
		answers, rest := row(t, string(c.Written), methods)
		if (c.State == api.Closing || c.State == api.Closed) && (rest || len(answers) != c.Answers) {
			t.Fatalf("client %d: closed behind %d answers of %d, %v: %q", i, len(answers), c.Answers, rest, c.Written)
		}
		if c.Held > api.MaxHeld || len(answers) > c.Answers {
			t.Fatalf("client %d: %+v", i, c)
		}
		if len(answers) > c.Requests {
			s := answers[len(answers)-1].head.Status
			if len(answers) > c.Requests+1 || s != 400 && s != 408 && s != 413 {
				t.Fatalf("client %d: %d answers, %d requests", i, len(answers), c.Requests)
			}
		}
		for j, a := range answers {
			page, _, e := harden.Kind(a.head)
			if e != api.OK {
				t.Fatalf("client %d: a head that may not be: %+v", i, a.head)
			}
			if page {
				washed(t, a, j < len(methods) && methods[j] == "HEAD" || a.head.Status == 204 || a.head.Status == 304)
			}
		}
	}
}

// washed checks P2 of an answer.
func washed(t *testing.T, a answer, bare bool) {
	t.Helper()
	l := a.head.Fields
	if ct := fields.All(l, "content-type"); len(ct) != 1 || ct[0] != "text/html; charset=utf-8" {
		t.Fatalf("a page's type: %q", ct)
	}
	if csp := fields.All(l, "content-security-policy"); len(csp) != 1 || csp[0] != "default-src 'none'; base-uri 'none'; form-action 'none'; sandbox" || fields.Count(l, "x-content-type-options") != 1 {
		t.Fatalf("a page's policy: %q", csp)
	}
	if n, e := build.Build(a.body); !bare && (e != api.OK || !policy.Holds(n) || wash.Write(n) != a.body) {
		t.Fatalf("a page that is not washed: %q", a.body)
	}
}

func requests() []string {
	return []string{
		get, get, get, "POST / HTTP/1.1\r\nHost: a\r\nContent-Length: 3\r\n\r\nabc", "PUT /x HTTP/1.1\r\nHost: a\r\nTransfer-Encoding: chunked\r\n\r\n2\r\nab\r\n0\r\n\r\n", "HEAD / HTTP/1.1\r\nHost: a\r\n\r\n", "GET / HTTP/1.1\r\nHost: a\r\nConnection: close\r\n\r\n",
		"GET / HTTP/1.1\r\nHost: a\r\nContent-Length: 1\r\nTransfer-Encoding: chunked\r\n\r\n", "GET / HTTP/1.1\nHost: a\r\n\r\n", "GET / HTTP/1.1\r\nHost : a\r\n\r\n", "POST / HTTP/1.1\r\nHost: a\r\nContent-Length: 9999\r\n\r\n",
	}
}

func responses() []string {
	return []string{
		"HTTP/1.1 200 OK\r\nContent-Length: 2\r\n\r\nhi", "HTTP/1.1 204 x\r\n\r\n", "HTTP/1.1 200 OK\r\nContent-Type: text/html\r\nContent-Length: 11\r\n\r\n<p>a<p>b<b>", "HTTP/1.1 200 OK\r\nContent-Type: text/html\r\n\r\n<script>x</script>y", "HTTP/1.1 200 OK\r\nTransfer-Encoding: chunked\r\n\r\n2\r\nab\r\n0\r\n\r\n", "HTTP/1.1 200 OK\r\nTransfer-Encoding: chunked\r\nContent-Type: text/html; charset=utf-8\r\n\r\n5\r\n<b>\xC3\xA4\r\n0\r\n\r\n", "HTTP/1.1 200 OK\r\n\r\nabc", "HTTP/1.1 200 OK\r\nConnection: close\r\nContent-Length: 0\r\n\r\n",
		"HTTP/1.1 200 OK\r\nContent-Length: 1\r\nTransfer-Encoding: chunked\r\n\r\n", "HTTP/1.1 101 x\r\n\r\n", "HTTP/1.1 200 OK\r\nContent-Type: image/svg+xml\r\nContent-Length: 0\r\n\r\n", "x", "HTTP/1.1 200 OK\r\nContent-Type: text/html\r\nContent-Encoding: gzip\r\nContent-Length: 0\r\n\r\n", "HTTP/1.1 304 x\r\nContent-Type: text/html\r\n\r\n",
	}
}

// script is steps by chance; most of what is fed is whole, and comes in pieces.
func script(rnd *rand.Rand) []api.Step {
	l := []api.Step{do(api.DoOpen)}
	for n := rnd.Intn(120); n > 0; n-- {
		c := rnd.Intn(3)
		switch rnd.Intn(24) {
		case 0:
			l = append(l, do(api.DoOpen))
		case 1, 2, 3, 4:
			s := requests()[rnd.Intn(len(requests()))]
			for s != "" {
				k := 1 + rnd.Intn(len(s))
				l = append(l, do(api.DoFeed, c, s[:k]), do(api.DoPick, c))
				s = s[k:]
			}
		case 5, 6, 7, 8:
			s := responses()[rnd.Intn(len(responses()))]
			for s != "" {
				k := 1 + rnd.Intn(len(s))
				l = append(l, do(api.DoUpFeed, c, s[:k]), do(api.DoPick, c))
				s = s[k:]
			}
		case 9:
			l = append(l, do(rnd.Intn(14)-1, rnd.Intn(6)-1, rnd.Intn(5)))
		case 10:
			l = append(l, do(api.DoUpEnd, c), do(api.DoPick, c))
		case 11:
			l = append(l, do(api.DoTick))
		case 12, 13, 14, 15:
			l = append(l, do(api.DoTake, c, rnd.Intn(500)))
		case 16, 17:
			l = append(l, do(api.DoUpTake, c, rnd.Intn(100)))
		default:
			l = append(l, do(api.DoPick, c))
		}
	}
	return l
}

// What follows: P1, P2, P3, P6, P7, for scripts by chance; and Run is Do step by step.
func TestScripts(t *testing.T) {
	rnd := rand.New(rand.NewSource(24))
	for i := 0; i < 4000; i++ {
		c := []api.Config{config(), {In: 1, Out: 1, Read: 1}, {In: 4096, Out: 4096, Read: 1024}, {In: 30, Out: 7, Read: 3}}[rnd.Intn(4)]
		steps := script(rnd)
		l := New(c)
		for _, s := range steps {
			l.Do(s)
		}
		log := l.Log()
		sound(t, log)
		if !reflect.DeepEqual(Run(c, steps), log) {
			t.Fatalf("Run is not Do step by step")
		}
		for _, s := range ticks(40) {
			l.Do(s)
		}
		for _, c := range l.Log().Clients {
			if c.State == api.Open {
				t.Fatalf("a client is open behind 40 ticks: %+v", c)
			}
		}
		sound(t, l.Log())
	}
}

// P4: a page's body is washed at once, in whatever pieces it comes.
func TestPieces(t *testing.T) {
	rnd := rand.New(rand.NewSource(241))
	body := "<title>t</title>\xE4<table>x<td>" + strings.Repeat("<p>a&amp;<script>y</script>", 20)
	want, _ := wash.Page([]byte(body), "")
	for i := 0; i < 200; i++ {
		c := api.Config{In: 1 + rnd.Intn(200), Out: 1 + rnd.Intn(200), Read: 1 + rnd.Intn(100)}
		l := New(c)
		all(t, l, do(api.DoOpen))
		serve := func() {
			for j := 0; j < 250; j++ {
				l.Do(do(api.DoPick, 0))
				l.Do(do(api.DoTake, 0, 99))
				l.Do(do(api.DoUpTake, 0, 99))
			}
		}
		feed := func(kind int, s string) {
			for s != "" {
				k := min(1+rnd.Intn(c.In), len(s))
				l.Do(do(kind, 0, s[:k]))
				serve()
				s = s[k:]
			}
		}
		feed(api.DoFeed, get)
		response := "HTTP/1.1 200 OK\r\nContent-Type: text/html\r\n"
		switch i % 3 {
		case 0:
			response += "\r\n" + body
		case 1:
			response += "Content-Length: 551\r\n\r\n" + body
		case 2:
			response += "Transfer-Encoding: chunked\r\n\r\n" + string(chunk.Chunk([]byte(body[:99]))) + string(chunk.Chunk([]byte(body[99:]))) + "0\r\n\r\n"
		}
		response = strings.Replace(response, "551", itoa(len(body)), 1)
		feed(api.DoUpFeed, response)
		l.Do(do(api.DoUpEnd, 0))
		for j := 0; j < 20; j++ {
			serve()
		}
		answers, rest := row(t, string(l.Log().Clients[0].Written), nil)
		if len(answers) != 1 || rest || answers[0].body != string(want) {
			t.Fatalf("%+v: %q", c, l.Log().Clients[0].Written)
		}
	}
}

func itoa(n int) string {
	if n < 10 {
		return string(rune('0' + n))
	}
	return itoa(n/10) + string(rune('0'+n%10))
}

// P5: what is cut off is a failure, or breaks off.
func TestCutOff(t *testing.T) {
	for _, a := range []struct {
		response, begin string
		state           int
	}{
		{"HTTP/1.1 200 OK\r\nContent-Type: text/html\r\nContent-Length: 99\r\n\r\n<p>", "HTTP/1.1 502 ", api.Closing}, {"HTTP/1.1 200 OK\r\nContent-Length: 99\r\n\r\nab", "HTTP/1.1 200 ", api.Aborted}, {"HTTP/1.1 200 OK\r\nTransfer-Encoding: chunked\r\n\r\n1\r\na\r\n", "HTTP/1.1 200 ", api.Aborted}, {"HTTP/1.1 200", "HTTP/1.1 502 ", api.Closing},
	} {
		l := New(api.Config{In: 4096, Out: 4096, Read: 1024})
		all(t, l, do(api.DoOpen), do(api.DoFeed, 0, get), do(api.DoPick, 0), do(api.DoUpFeed, 0, a.response), do(api.DoPick, 0), do(api.DoUpEnd, 0), do(api.DoPick, 0), do(api.DoPick, 0))
		log := l.Log()
		if c := log.Clients[0]; !strings.HasPrefix(string(c.Written), a.begin) || c.State != a.state || log.Upstreams[0].State != api.Aborted {
			t.Errorf("%q: %+v", a.response, log)
		}
	}
}
