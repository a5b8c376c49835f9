package head

import (
	"errors"
	"reflect"
	"strings"
	"testing"

	"colander/api"
)

const first = "GET / HTTP/1.1\r\n"

func at(err error) (int, api.Errno) {
	if err == nil {
		return -1, api.OK
	}
	var f *api.Fault
	if !errors.As(err, &f) {
		return -2, api.OK
	}
	return f.At, f.Err
}

type refused struct {
	s  string
	at int
	e  api.Errno
}

func field33() string { return strings.Repeat("a: b\r\n", 32) }

// H1: right requests.
func TestRequest(t *testing.T) {
	q, err := Request("GET /a HTTP/1.1\r\nHost: x:80\r\nA: b \r\n\r\n")
	want := api.Request{Method: "GET", Target: "/a", Fields: []api.Field{{Name: "Host", Value: "x:80"}, {Name: "A", Value: "b"}}}
	if err != nil || !reflect.DeepEqual(q, want) {
		t.Errorf("the example: %+v, %v", q, err)
	}
	for _, s := range []string{
		"a / HTTP/1.1\r\nhOST:a\r\n\r\n", "!#$%&'*+-.^_`|~9 /?a=b&[]{}\" HTTP/1.1\r\nHost:\t a.b-C9:12345\t \r\n\r\n",
		"ABCDEFGHIJKLMNOP / HTTP/1.1\r\nHost: a\r\n\r\n", "trace / HTTP/1.1\r\nHost: a\r\n\r\n", "GET /!\"$~ HTTP/1.1\r\nHost: AZaz09.-:09999\r\n\r\n", "get / HTTP/1.1\r\nHost: a:0\r\nx:\r\ny: a\tb é\x80 c : d\r\n\r\n",
		first + strings.Repeat("a: b\r\n", 31) + "Host: -.\r\n\r\n",
	} {
		q, err := Request(s)
		if err != nil {
			t.Errorf("Request(%q): %v", s, err)
			continue
		}
		again, err := Request(RequestText(q))
		if err != nil || !reflect.DeepEqual(again, q) {
			t.Errorf("Request of RequestText of %+v: %+v, %v", q, again, err)
		}
	}
}

// H1: what is refused, and at which place.
func TestRequestRefused(t *testing.T) {
	h := "Host: a\r\n\r\n"
	for _, a := range []refused{
		{"GET /a HTTP/1.0\r\n\r\n", 7, api.ErrVersion}, {first + "Host : x\r\n\r\n", 20, api.ErrBlank}, {"GET / HTTP/1.1\nHost: a\r\n\r\n", 14, api.ErrLine}, {first + "\r\n", 0, api.ErrHost},
		{"", 0, api.ErrShort}, {"GET", 3, api.ErrShort}, {"GET / HTTP/1.1\r", 15, api.ErrShort}, {first, 16, api.ErrShort}, {first + "Host: a\r\n", 25, api.ErrShort}, {first + "Host: a\r\n\r", 26, api.ErrShort},
		{"GET / HTTP/1.1\rx", 14, api.ErrLine}, {"GET / HTTP/1.1\r\r\n", 14, api.ErrLine}, {first + "Host: a\n\r\n", 23, api.ErrLine}, {"\n", 0, api.ErrLine}, {"bad\nx", 3, api.ErrLine},
		{"\r\n", 0, api.ErrMethod}, {"GET\r\n", 0, api.ErrMethod}, {" / HTTP/1.1\r\n", 0, api.ErrMethod}, {"CONNECT / HTTP/1.1\r\n", 0, api.ErrMethod}, {"TRACE / HTTP/1.1\r\n", 0, api.ErrMethod}, {"G(T / HTTP/1.1\r\n", 0, api.ErrMethod}, {"ABCDEFGHIJKLMNOPQ / HTTP/1.1\r\n", 0, api.ErrMethod},
		{"GET /\r\n", 4, api.ErrTarget}, {"GET  / HTTP/1.1\r\n", 4, api.ErrTarget}, {"GET a HTTP/1.1\r\n", 4, api.ErrTarget}, {"GET * HTTP/1.1\r\n", 4, api.ErrTarget}, {"GET http://a/ HTTP/1.1\r\n", 4, api.ErrTarget}, {"GET /#a HTTP/1.1\r\n", 4, api.ErrTarget}, {"GET /\x7f HTTP/1.1\r\n", 4, api.ErrTarget}, {"GET /\xe9 HTTP/1.1\r\n", 4, api.ErrTarget}, {"GET /\ta HTTP/1.1\r\n", 4, api.ErrTarget}, {"POST /\x00 x\r\n", 5, api.ErrTarget},
		{"GET / \r\n", 6, api.ErrVersion}, {"GET / HTTP/1.1 \r\n", 6, api.ErrVersion}, {"GET / http/1.1\r\n", 6, api.ErrVersion}, {"GET /  HTTP/1.1\r\n", 6, api.ErrVersion}, {"GET / HTTP/2.0\r\n" + h, 6, api.ErrVersion},
		{first + field33() + "x: y\r\n", 16 + 192, api.ErrFields}, {first + field33() + " fold\r\n", 16 + 192, api.ErrFields}, {first + " Host: a\r\n", 16, api.ErrFold}, {first + "Host: a\r\n\tb\r\n", 25, api.ErrFold}, {first + " \r\n", 16, api.ErrFold},
		{first + "Host\r\n", 16, api.ErrName}, {first + ": a\r\n", 16, api.ErrName}, {first + "a b: c\r\n", 16, api.ErrName}, {first + "a(: c\r\n", 16, api.ErrName}, {first + "é: c\r\n", 16, api.ErrName},
		{first + "a \t : c\r\n", 17, api.ErrBlank}, {first + "a b \t: \x00\r\n", 19, api.ErrBlank}, {first + "(: \x00\r\n", 16, api.ErrName}, {first + "a:\x00\r\n", 18, api.ErrValue}, {first + "ab: c\x7f\x01\r\n", 21, api.ErrValue}, {first + "ab:  \x0b\r\n", 21, api.ErrValue},
		{first + h + "x", 27, api.ErrArg}, {first + "\r\nx", 18, api.ErrArg}, {first + h + "\r\n", 27, api.ErrArg},
		{first + "Host: a\r\nhost: a\r\n\r\n", 0, api.ErrHost}, {first + "Host:\r\n\r\n", 0, api.ErrHost}, {first + "Host: a:\r\n\r\n", 0, api.ErrHost}, {first + "Host: a:123456\r\n\r\n", 0, api.ErrHost}, {first + "Host: a:8x\r\n\r\n", 0, api.ErrHost}, {first + "Host: :80\r\n\r\n", 0, api.ErrHost}, {first + "Host: a_b\r\n\r\n", 0, api.ErrHost}, {first + "Host: a b\r\n\r\n", 0, api.ErrHost}, {first + "Host: [::1]\r\n\r\n", 0, api.ErrHost}, {first + "Host: a:1:2\r\n\r\n", 0, api.ErrHost}, {first + "Host: a@b\r\n\r\n", 0, api.ErrHost}, {first + "Host: [\r\n\r\n", 0, api.ErrHost}, {first + "Host: {\r\n\r\n", 0, api.ErrHost}, {first + "Host: `\r\n\r\n", 0, api.ErrHost}, {first + "Host: ,\r\n\r\n", 0, api.ErrHost}, {first + "Host: a:;\r\n\r\n", 0, api.ErrHost}, {first + "Host: a/\r\n\r\n", 0, api.ErrHost},
		{strings.Repeat("x", 2049), 2048, api.ErrHead}, {"\n" + strings.Repeat("x", 9999), 2048, api.ErrHead}, {strings.Repeat("x", 2048), 2048, api.ErrShort},
	} {
		q, err := Request(a.s)
		if n, e := at(err); n != a.at || e != a.e {
			t.Errorf("Request(%q): %d at %d; not %d at %d", a.s, e, n, a.e, a.at)
		}
		if !errors.Is(err, a.e) || q.Method != "" || q.Target != "" || len(q.Fields) != 0 {
			t.Errorf("Request(%q): %+v", a.s, q)
		}
	}
}

// H2: right responses.
func TestResponse(t *testing.T) {
	p, err := Response("HTTP/1.1 200 \r\n\r\n")
	if err != nil || p.Status != 200 || p.Reason != "" || len(p.Fields) != 0 {
		t.Errorf("the example: %+v, %v", p, err)
	}
	for _, s := range []string{"HTTP/1.1 200 OK\r\nA: b\r\n\r\n", "HTTP/1.1 599  a\tb é \r\nx:\r\nx: y\r\n\r\n", "HTTP/1.1 404 x\r\n" + field33() + "\r\n"} {
		p, err := Response(s)
		if err != nil {
			t.Errorf("Response(%q): %v", s, err)
			continue
		}
		if ResponseText(p) != s {
			t.Errorf("ResponseText(%+v): %q", p, ResponseText(p))
		}
	}
}

// H2: what is refused, and at which place.
func TestResponseRefused(t *testing.T) {
	const ok = "HTTP/1.1 200 \r\n"
	for _, a := range []refused{
		{"HTTP/1.1 200\r\n\r\n", 9, api.ErrStatus}, {"HTTP/1.1 101 x\r\n\r\n", 9, api.ErrStatus}, {"HTTP/1.1 199 \r\n", 9, api.ErrStatus}, {"HTTP/1.1 600 \r\n", 9, api.ErrStatus}, {"HTTP/1.1 20 x\r\n", 9, api.ErrStatus}, {"HTTP/1.1 2000 x\r\n", 9, api.ErrStatus}, {"HTTP/1.1  200 x\r\n", 9, api.ErrStatus}, {"HTTP/1.1 +20 x\r\n", 9, api.ErrStatus}, {"HTTP/1.1 200\tx\r\n", 9, api.ErrStatus}, {"HTTP/1.1 \r\n", 9, api.ErrStatus},
		{"", 0, api.ErrShort}, {"\r\n", 0, api.ErrVersion}, {"HTTP/1.1\r\n", 0, api.ErrVersion}, {"HTTP/1.0 200 x\r\n", 0, api.ErrVersion}, {"http/1.1 200 x\r\n", 0, api.ErrVersion}, {"HTTP/1.0 200 x\n", 14, api.ErrLine},
		{"HTTP/1.1 200 a\x00b\x01\r\n", 14, api.ErrValue}, {"HTTP/1.1 200 \x7f\r\n", 13, api.ErrValue},
		{ok, 15, api.ErrShort}, {ok + "a: b\r\n\r", 22, api.ErrShort}, {ok + "a: b\r\r\n", 19, api.ErrLine}, {ok + field33() + "a: b\r\n\r\n", 15 + 192, api.ErrFields}, {ok + " a: b\r\n", 15, api.ErrFold}, {ok + "a\r\n", 15, api.ErrName}, {ok + "a : b\r\n", 16, api.ErrBlank}, {ok + "(: b\r\n", 15, api.ErrName}, {ok + "a: \x02\r\n", 18, api.ErrValue},
		{ok + "\r\nx", 17, api.ErrArg}, {ok + "a: b\r\n\r\n\n", 23, api.ErrArg}, {strings.Repeat("x", 2049), 2048, api.ErrHead},
	} {
		p, err := Response(a.s)
		if n, e := at(err); n != a.at || e != a.e {
			t.Errorf("Response(%q): %d at %d; not %d at %d", a.s, e, n, a.e, a.at)
		}
		if p.Status != 0 || p.Reason != "" || len(p.Fields) != 0 {
			t.Errorf("Response(%q): %+v", a.s, p)
		}
	}
}

// H3: nothing is written of what is not right.
func TestTexts(t *testing.T) {
	host := []api.Field{{Name: "Host", Value: "a"}}
	if s := RequestText(api.Request{Method: "GET", Target: "/", Fields: host}); s != "GET / HTTP/1.1\r\nHost: a\r\n\r\n" {
		t.Errorf("RequestText: %q", s)
	}
	for _, q := range []api.Request{
		{}, {Method: "GET", Target: "/"}, {Method: "TRACE", Target: "/", Fields: host}, {Method: "", Target: "/", Fields: host}, {Method: "GET", Target: "", Fields: host}, {Method: "GET", Target: "/ ", Fields: host}, {Method: "GET", Target: "x", Fields: host},
		{Method: "GET", Target: "/", Fields: append(host, host...)}, {Method: "GET", Target: "/", Fields: append(host, api.Field{Name: "a", Value: " b"})}, {Method: "GET", Target: "/", Fields: append(host, make([]api.Field, 32)...)},
		{Method: "GET", Target: "/" + strings.Repeat("a", 2022), Fields: host},
	} {
		if s := RequestText(q); s != "" {
			t.Errorf("RequestText(%+v): %q", q, s)
		}
	}
	if s := RequestText(api.Request{Method: "GET", Target: "/" + strings.Repeat("a", 2021), Fields: host}); len(s) != api.MaxHead {
		t.Errorf("RequestText of MaxHead bytes: %d", len(s))
	}
	for _, p := range []api.Response{{}, {Status: 199}, {Status: 600}, {Status: 200, Reason: "a\r\nb"}, {Status: 200, Reason: "\x7f"}, {Status: 200, Fields: []api.Field{{}}}, {Status: 200, Fields: make([]api.Field, 33)}, {Status: 200, Reason: strings.Repeat("a", 2032)}} {
		if s := ResponseText(p); s != "" {
			t.Errorf("ResponseText(%+v): %q", p, s)
		}
	}
	if s := ResponseText(api.Response{Status: 200, Reason: strings.Repeat("a", 2031)}); len(s) != api.MaxHead {
		t.Errorf("ResponseText of MaxHead bytes: %d", len(s))
	}
}

// H4: where a reader stops, and with what.
func TestReader(t *testing.T) {
	long := strings.Repeat("x", 2044)
	for _, a := range []struct {
		s    string
		n    int
		done bool
		e    api.Errno
	}{
		{"", 0, false, 0}, {"\r\n", 2, true, 0}, {"\r\nx", 2, true, 0}, {"a\r\n\r\nb", 5, true, 0}, {"a\r\nb\r\n\r\n\r\n", 8, true, 0}, {"a\r\nb", 4, false, 0}, {"a\r", 2, false, 0},
		{"\n", 1, false, api.ErrLine}, {"a\nb", 2, false, api.ErrLine}, {"a\r\n\n", 4, false, api.ErrLine}, {"a\rbc", 3, false, api.ErrLine}, {"\r\rx", 2, false, api.ErrLine}, {"a\r\n\rx", 5, false, api.ErrLine},
		{long + "\r\n\r\nx", 2048, true, 0}, {long + "y\r\n\r\n", 2048, false, api.ErrHead}, {long + "xxxxx", 2048, false, api.ErrHead}, {long + "xxx\n", 2048, false, api.ErrLine}, {long + "xxx\r\n", 2048, false, api.ErrHead}, {long + "xx\r\n", 2048, false, api.ErrHead},
	} {
		for piece := 1; piece <= len(a.s)+1; piece += 1 + len(a.s)/7 {
			r := New()
			n := 0
			for i := 0; i < len(a.s); i += piece {
				n += r.Take([]byte(a.s[i:min(i+piece, len(a.s))]))
			}
			if n != a.n || r.Done() != a.done || r.Err() != a.e || r.Text() != a.s[:a.n] {
				t.Errorf("%.40q by %d: %d bytes, %v, %d, %.40q", a.s, piece, n, r.Done(), r.Err(), r.Text())
			}
		}
	}
}

// What follows: where Request takes a text, a reader takes just that.
func TestReaderTakesRequests(t *testing.T) {
	s := first + "Host: a\r\nb: c\r\n\r\n"
	r := New()
	if n := r.Take([]byte(s + s)); n != len(s) || !r.Done() || r.Text() != s || r.Take([]byte(s)) != 0 {
		t.Errorf("the reader took %d of %d", n, len(s))
	}
}
