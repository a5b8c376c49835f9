package harden

import (
	"math"
	"math/rand"
	"reflect"
	"strings"
	"testing"

	"colander/api"
	"colander/fields"
	"colander/head"
)

// list reads fields: name: value|name: value.
func list(s string) []api.Field {
	var l []api.Field
	for _, f := range strings.Split(s, "|") {
		if name, value, ok := strings.Cut(f, ":"); ok {
			l = append(l, api.Field{Name: name, Value: strings.Trim(value, " ")})
		}
	}
	return l
}

func show(l []api.Field) string {
	var s []string
	for _, f := range l {
		s = append(s, f.Name+": "+f.Value)
	}
	return strings.Join(s, "|")
}

// D1: Forward.
func TestForward(t *testing.T) {
	for _, a := range []struct {
		in     string
		length int
		out    string
	}{
		{"Connection: x, Host|X: 1|Host: a|Transfer-Encoding: chunked|y: 2", 5, "Host: a|y: 2|Content-Length: 5"}, {"Host: a", -1, "Host: a"}, {"Host: a", 0, "Host: a|Content-Length: 0"}, {"Host: a|Content-Length: 7|content-length: 8", math.MinInt, "Host: a"}, {"Host: a|Content-Length: 7", 9, "Host: a|Content-Length: 9"},
		{"keep-alive: 1|PROXY-connection: 1|te: 1|trailer: 1|transfer-encoding: 1|upgrade: 1|accept-encoding: gzip|expect: 100-continue|Accept: x|Cookie: y|TEA: z", -1, "Accept: x|Cookie: y|TEA: z"},
		{"connection: a|Connection: b, HOST|A: 1|b: 2|c: 3|host: x", -1, "c: 3|host: x"}, {"Connection: a, \"|A: 1", -1, "A: 1"}, {"Connection: \"a\"|A: 1", -1, "A: 1"}, {"Connection: close|Close: 1", -1, ""}, {"", -1, ""}, {"X-Content-Type-Options: a", -1, "X-Content-Type-Options: a"},
	} {
		q := api.Request{Method: "PUT", Target: "/t", Fields: list(a.in)}
		f := Forward(q, a.length)
		if show(f.Fields) != a.out || f.Method != "PUT" || f.Target != "/t" || show(q.Fields) != show(list(a.in)) {
			t.Errorf("Forward(%s, %d): %+v", a.in, a.length, f)
		}
	}
}

// D2: Kind.
func TestKind(t *testing.T) {
	for _, a := range []struct {
		in      string
		page    bool
		charset string
		e       api.Errno
	}{
		{"", false, "", 0}, {"Content-Type: TEXT/html;charset=x", true, "x", 0}, {"content-type: text/html", true, "", 0}, {"Content-Type: text/html; a=b; CHARSET=\"x y\"; charset=z", true, "x y", 0}, {"Content-Type: text/plain; charset=x", false, "", 0}, {"Content-Type: image/png", false, "", 0}, {"Content-Type: application/html", false, "", 0}, {"Content-Type: text/htmlx", false, "", 0}, {"Content-Type: text/xmls", false, "", 0},
		{"Content-Type: image/svg+xml", false, "", api.ErrMedia}, {"Content-Type: text/xml", false, "", api.ErrMedia}, {"Content-Type: APPLICATION/XML", false, "", api.ErrMedia}, {"Content-Type: application/xhtml+XML; q=1", false, "", api.ErrMedia}, {"Content-Type: a/+xml", false, "", api.ErrMedia}, {"Content-Type:", false, "", api.ErrMedia}, {"Content-Type: text", false, "", api.ErrMedia}, {"Content-Type: text/html, text/html", false, "", api.ErrMedia}, {"Content-Type: text/html|Content-Type: text/html", false, "", api.ErrMedia}, {"Content-Type: text/plain|content-type: text/plain", false, "", api.ErrMedia}, {"Content-Type: text/html; charset", false, "", api.ErrMedia},
		{"Content-Type: text/html|Content-Encoding: gzip", false, "", api.ErrEncoded}, {"Content-Type: text/html|Content-Encoding: Identity, identity|content-encoding:", true, "", 0}, {"Content-Type: text/html|Content-Encoding: identity, br", false, "", api.ErrEncoded}, {"Content-Type: text/html|Content-Encoding: \"", false, "", api.ErrEncoded}, {"Content-Type: text/html; charset=x|Content-Encoding: \"identity\"", false, "", api.ErrEncoded}, {"Content-Type: text/plain|Content-Encoding: gzip", false, "", 0}, {"Content-Type: text/xml|Content-Encoding: gzip", false, "", api.ErrMedia}, {"Content-Encoding: gzip", false, "", 0},
	} {
		if page, charset, e := Kind(api.Response{Fields: list(a.in)}); page != a.page || charset != a.charset || e != a.e {
			t.Errorf("Kind(%s): %v, %q, %d", a.in, page, charset, e)
		}
	}
}

const fixed = "Content-Type: text/html; charset=utf-8|Content-Security-Policy: default-src 'none'; base-uri 'none'; form-action 'none'; sandbox|X-Content-Type-Options: nosniff"

// D3: Page.
func TestPage(t *testing.T) {
	for _, a := range []struct {
		in     string
		length int
		last   bool
		out    string
	}{
		{"", -1, false, fixed}, {"", 0, true, fixed + "|Content-Length: 0|Connection: close"}, {"a: b|Content-Length: 7", 12, false, "a: b|" + fixed + "|Content-Length: 12"}, {"", -5, true, fixed + "|Connection: close"},
		{"content-type: x|content-encoding: x|content-security-policy: x|x-content-type-options: x|etag: x|content-md5: x|accept-ranges: x|content-range: x|refresh: x|link: x|connection: close, y|y: x|keep-alive: x|upgrade: x|transfer-encoding: chunked|Set-Cookie: z|Content-Security-Policy: y", -1, false, "Set-Cookie: z|" + fixed},
	} {
		p := api.Response{Status: 201, Reason: "why", Fields: list(a.in)}
		got := Page(p, a.length, a.last)
		if show(got.Fields) != a.out || got.Status != 201 || got.Reason != "why" {
			t.Errorf("Page(%s, %d, %v): %+v", a.in, a.length, a.last, got)
		}
	}
}

// D4: Plain.
func TestPlain(t *testing.T) {
	const nosniff = "X-Content-Type-Options: nosniff"
	for _, a := range []struct {
		in   string
		b    api.Body
		last bool
		out  string
	}{
		{"", api.Body{}, false, nosniff}, {"", api.Body{Kind: api.BodyLength, Length: 5}, false, nosniff + "|Content-Length: 5"}, {"", api.Body{Kind: api.BodyLength}, true, nosniff + "|Content-Length: 0|Connection: close"}, {"", api.Body{Kind: api.BodyLength, Length: -1}, false, nosniff}, {"", api.Body{Kind: api.BodyLength, Length: math.MaxInt64}, false, nosniff + "|Content-Length: 9223372036854775807"}, {"", api.Body{Kind: api.BodyChunked, Length: 4}, true, nosniff + "|Transfer-Encoding: chunked|Connection: close"}, {"", api.Body{Kind: api.BodyClose}, false, nosniff + "|Transfer-Encoding: chunked"}, {"", api.Body{Kind: 9, Length: 1}, false, nosniff}, {"", api.Body{Kind: -1}, true, nosniff + "|Connection: close"},
		{"Content-Type: a/b|etag: x|x-content-type-OPTIONS: y|Content-Length: 5|Connection: etagx, q|q: 1|Content-Encoding: gzip", api.Body{}, false, "Content-Type: a/b|etag: x|Content-Encoding: gzip|" + nosniff},
	} {
		p := api.Response{Status: 404, Reason: "", Fields: list(a.in)}
		got := Plain(p, a.b, a.last)
		if show(got.Fields) != a.out || got.Status != 404 || got.Reason != "" {
			t.Errorf("Plain(%s, %+v, %v): %+v", a.in, a.b, a.last, got)
		}
	}
}

// D5: Fail.
func TestFail(t *testing.T) {
	for status, words := range map[int]string{400: "Bad Request", 408: "Request Timeout", 413: "Content Too Large", 502: "Bad Gateway", 504: "Gateway Timeout"} {
		lengths := map[int]string{400: "12", 408: "16", 413: "18", 502: "12", 504: "16"}
		text := "HTTP/1.1 " + map[int]string{400: "400", 408: "408", 413: "413", 502: "502", 504: "504"}[status] + " " + words + "\r\nContent-Type: text/plain; charset=utf-8\r\nX-Content-Type-Options: nosniff\r\nContent-Length: " + lengths[status] + "\r\nConnection: close\r\n\r\n"
		if got := string(Fail(status, true)); got != text {
			t.Errorf("Fail(%d, true): %q", status, got)
		}
		if got := string(Fail(status, false)); got != text+words+"\n" {
			t.Errorf("Fail(%d, false): %q", status, got)
		}
	}
	for _, status := range []int{0, 200, 404, 500, 503, -1, math.MaxInt} {
		if len(Fail(status, false))+len(Fail(status, true)) != 0 {
			t.Errorf("Fail(%d)", status)
		}
	}
}

// D6: Keeps.
func TestKeeps(t *testing.T) {
	for in, want := range map[string]bool{"": true, "Connection: keep-alive": true, "Connection: close": false, "connection: a, CLOSE": false, "Connection: a|Connection: Close": false, "Connection: \"close\"": true, "Connection: closed": true, "Connection: a, \"": false, "Close: close": true, "Connection:": true} {
		if Keeps(list(in)) != want {
			t.Errorf("Keeps(%s)", in)
		}
	}
}

// What follows: heads that are made have one reading.
func TestFollows(t *testing.T) {
	rnd := rand.New(rand.NewSource(21))
	names := strings.Fields("Connection Content-Length Transfer-Encoding X-Content-Type-Options Content-Security-Policy a b Host TE content-type ETag")
	values := []string{"close", "a, b", "chunked", "5", "", "x", "Host, content-type", "text/html", "\""}
	for i := 0; i < 20000; i++ {
		l := []api.Field{{Name: "Host", Value: "h"}}
		for n := rnd.Intn(6); n > 0; n-- {
			if name := names[rnd.Intn(len(names))]; name != "Host" {
				l = append(l, api.Field{Name: name, Value: values[rnd.Intn(len(values))]})
			}
		}
		q := Forward(api.Request{Method: "GET", Target: "/", Fields: l}, rnd.Intn(5)-2)
		if back, err := head.Request(head.RequestText(q)); err != nil || !reflect.DeepEqual(back, q) {
			t.Fatalf("Forward of %s: %s", show(l), show(q.Fields))
		}
		if fields.Count(q.Fields, "transfer-encoding") > 0 || fields.Count(q.Fields, "content-length") > 1 {
			t.Fatalf("Forward of %s: %s", show(l), show(q.Fields))
		}
		r := api.Response{Status: 200, Fields: l}
		page := Page(r, rnd.Intn(5)-2, rnd.Intn(2) == 0)
		if fields.Count(page.Fields, "content-security-policy") != 1 || fields.Count(page.Fields, "x-content-type-options") != 1 || fields.Count(page.Fields, "transfer-encoding") > 0 || fields.Count(page.Fields, "content-length") > 1 {
			t.Fatalf("Page of %s: %s", show(l), show(page.Fields))
		}
		plain := Plain(r, api.Body{Kind: rnd.Intn(4), Length: 3}, rnd.Intn(2) == 0)
		if fields.Count(plain.Fields, "x-content-type-options") != 1 || fields.Count(plain.Fields, "transfer-encoding")+fields.Count(plain.Fields, "content-length") > 1 {
			t.Fatalf("Plain of %s: %s", show(l), show(plain.Fields))
		}
	}
}
