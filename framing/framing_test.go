package framing

import (
	"strings"
	"testing"

	"colander/api"
)

// list makes fields of lines.
func list(s string) []api.Field {
	var l []api.Field
	for _, line := range strings.Split(s, "|") {
		if name, value, found := strings.Cut(line, ": "); found {
			l = append(l, api.Field{Name: name, Value: value})
		}
	}
	return l
}

const (
	none    = api.BodyNone
	sized   = api.BodyLength
	chunked = api.BodyChunked
	closed  = api.BodyClose
)

type asked struct {
	fields string
	kind   int
	length int64
	e      api.Errno
}

// both are the cases that are the same of requests and of responses.
func both() []asked {
	return []asked{
		{"Content-Length: 0", sized, 0, 0}, {"Content-Length: 5, 05|content-length: 5", sized, 5, 0}, {"CONTENT-LENGTH: 8192", sized, 8192, 0}, {"Content-Length: 5,,", sized, 5, 0},
		{"Content-Length: 5, 6", 0, 0, api.ErrLength}, {"Content-Length: 5|Content-Length: 6", 0, 0, api.ErrLength}, {"Content-Length: ", 0, 0, api.ErrLength}, {"Content-Length:  , ", 0, 0, api.ErrLength}, {"Content-Length: +5", 0, 0, api.ErrLength}, {"Content-Length: -5", 0, 0, api.ErrLength}, {"Content-Length: 0x5", 0, 0, api.ErrLength}, {"Content-Length: 5 5", 0, 0, api.ErrLength}, {"Content-Length: \"5\"", 0, 0, api.ErrLength}, {"Content-Length: \"", 0, 0, api.ErrLength},
		{"Content-Length: 9223372036854775807", 0, 0, api.ErrBody}, {"Content-Length: 9223372036854775808", 0, 0, api.ErrLength}, {"Content-Length: 8193", 0, 0, api.ErrBody}, {"Content-Length: 8193, 5", 0, 0, api.ErrLength}, {"Content-Length: 0|Content-Length: 1", 0, 0, api.ErrLength},
		{"Transfer-Encoding: Chunked", chunked, 0, 0}, {"transfer-encoding: , chunked ,", chunked, 0, 0}, {"Transfer-Encoding: |Transfer-Encoding: chunked", chunked, 0, 0},
		{"Transfer-Encoding: gzip, chunked", 0, 0, api.ErrCoding}, {"Transfer-Encoding: chunked, chunked", 0, 0, api.ErrCoding}, {"Transfer-Encoding: chunked|Transfer-Encoding: chunked", 0, 0, api.ErrCoding}, {"Transfer-Encoding: ", 0, 0, api.ErrCoding}, {"Transfer-Encoding: identity", 0, 0, api.ErrCoding}, {"Transfer-Encoding: chunked;q=1", 0, 0, api.ErrCoding}, {"Transfer-Encoding: \"chunked\"", 0, 0, api.ErrCoding}, {"Transfer-Encoding: chunked, \"", 0, 0, api.ErrCoding},
		{"Transfer-Encoding: chunked|Content-Length: 5", 0, 0, api.ErrBoth}, {"Transfer-Encoding: |Content-Length: ", 0, 0, api.ErrBoth}, {"content-length: x|transfer-encoding: \"", 0, 0, api.ErrBoth},
	}
}

// F1: requests.
func TestRequest(t *testing.T) {
	for _, a := range append(both(), asked{"", none, 0, 0}, asked{"Connection: close", none, 0, 0}) {
		b, e := Request(api.Request{Method: "HEAD", Fields: list(a.fields)})
		if b.Kind != a.kind || b.Length != a.length || e != a.e {
			t.Errorf("Request(%q): %+v, %d", a.fields, b, e)
		}
	}
}

// F2: responses.
func TestResponse(t *testing.T) {
	for _, a := range append(both(), asked{"", closed, 0, 0}, asked{"Connection: close", closed, 0, 0}) {
		b, e := Response("GET", api.Response{Status: 200, Fields: list(a.fields)})
		if b.Kind != a.kind || b.Length != a.length || e != a.e {
			t.Errorf("Response(%q): %+v, %d", a.fields, b, e)
		}
	}
}

// F2: responses that have no body, whatever their fields tell; but what is wrong is wrong.
func TestResponseNone(t *testing.T) {
	for _, l := range both() {
		want := l.e
		if want == api.ErrBody {
			want = api.OK
		}
		for _, a := range []struct {
			method string
			status int
		}{{"HEAD", 200}, {"GET", 204}, {"GET", 304}} {
			b, e := Response(a.method, api.Response{Status: a.status, Fields: list(l.fields)})
			if b != (api.Body{}) || e != want {
				t.Errorf("Response(%s, %d, %q): %+v, %d", a.method, a.status, l.fields, b, e)
			}
		}
	}
	for _, m := range []string{"head", "Head", "", "HEADS"} {
		if b, _ := Response(m, api.Response{Status: 200}); b.Kind != closed {
			t.Errorf("Response(%q): %+v", m, b)
		}
	}
}
