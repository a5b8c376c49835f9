package shell

import (
	"strings"
	"testing"
)

// say does lines, each followed by its answer, and checks these.
func say(t *testing.T, s *Shell, l ...string) {
	t.Helper()
	for i := 0; i < len(l); i += 2 {
		if got := s.Do(l[i]); got != l[i+1] {
			t.Errorf("%.60q: %.300q; not %.300q", l[i], got, l[i+1])
		}
	}
}

const (
	h    = `GET / HTTP/1.1\r\nHost: a\r\n\r\n`
	fail = `\r\nContent-Type: text/plain; charset=utf-8\r\nX-Content-Type-Options: nosniff\r\nContent-Length: `
)

// first is a shell behind the first of the ten examples.
func first(t *testing.T) *Shell {
	t.Helper()
	s := New()
	say(t, s, "open", "ok 0", "feed 0 "+h, "ok", "pick 0", "ok", "asked 0", h, "client 0", "state 0 requests 1 answers 0 held 0 written 0")
	return s
}

func bad(status, length, body string) string {
	return "HTTP/1.1 " + status + fail + length + `\r\nConnection: close\r\n\r\n` + body + `\n`
}

// The ten examples of the whole.
func TestTen(t *testing.T) {
	say(t, first(t), `upfeed 0 HTTP/1.1 200 OK\r\nContent-Length: 2\r\n\r\nhi`, "ok", "pick 0", "ok", "sent 0", `HTTP/1.1 200 OK\r\nX-Content-Type-Options: nosniff\r\nContent-Length: 2\r\n\r\nhi`)
	say(t, first(t), "upend 0", "ok", "pick 0", "ok", "sent 0", bad("502 Bad Gateway", "12", "Bad Gateway"), "client 0", "state 1 requests 1 answers 1 held 0 written 153", "upstream 0", "client 0 state 3 written 27", "take 0 999", "ok", "client 0", "state 2 requests 1 answers 1 held 0 written 153")
	s := first(t)
	for i := 0; i < 11; i++ {
		say(t, s, "tick", "ok")
	}
	say(t, s, "sent 0", bad("504 Gateway Timeout", "16", "Gateway Timeout"))
	s = New()
	say(t, s, "open", "ok 0", `feed 0 GET / HTTP/1.1\r\nHost: a\r\nContent-Length: 1\r\nTransfer-Encoding: chunked\r\n\r\n`, "ok", "pick 0", "ok", "sent 0", bad("400 Bad Request", "12", "Bad Request"), "upstream 0", "error 26")
	const page = `<!DOCTYPE html><html><head><meta charset="utf-8"></head><body><p>a</p></body></html>`
	say(t, first(t), `upfeed 0 HTTP/1.1 200 OK\r\nContent-Type: text/html\r\n\r\n<p>a<script>x</script>`, "ok", "upend 0", "ok", "pick 0", "ok", "sent 0", `HTTP/1.1 200 OK\r\nContent-Type: text/html; charset=utf-8\r\nContent-Security-Policy: default-src 'none'; base-uri 'none'; form-action 'none'; sandbox\r\nX-Content-Type-Options: nosniff\r\nContent-Length: 84\r\n\r\n`+page)
	say(t, first(t), `upfeed 0 HTTP/1.1 200 OK\r\nContent-Type: text/html\r\nContent-Length: 99\r\n\r\n<p>a<script>x</script>`, "ok", "upend 0", "ok", "pick 0", "ok", "sent 0", bad("502 Bad Gateway", "12", "Bad Gateway"))
	s = first(t)
	say(t, s, `upfeed 0 HTTP/1.1 200 OK\r\nTransfer-Encoding: chunked\r\n\r\n1\r\na\r\nz`, "ok", "pick 0", "ok", "pick 0", "ok", `upfeed 0 \r\n`, "ok", "pick 0", "ok", "sent 0", `HTTP/1.1 200 OK\r\nX-Content-Type-Options: nosniff\r\nTransfer-Encoding: chunked\r\n\r\n1\r\na\r\n`)
	if got := s.Do("client 0"); !strings.HasPrefix(got, "state 3 requests 1 answers 1 ") {
		t.Errorf("a body that breaks off: %q", got)
	}
	const two = `<!DOCTYPE html><html><head><meta charset="utf-8"></head><body><p>a</p><p>b</p></body></html>`
	say(t, s, "wash - <p>a<p>b", two, "wash - "+two, two, "wash utf-16 a", "error 40", "wash", "error 1", "Wash", "error 27")
}

// X2: the chapter's examples.
func TestExamples(t *testing.T) {
	s := first(t)
	say(t, s, "upend 0", "ok", "pick 0", "ok", "client 0", "state 1 requests 1 answers 1 held 0 written 153", "pick 7", "error 1", "asked 9", "error 26", `feed 0 \q`, "error 1", "Tick", "error 27")
}

// X2: which words a command has.
func TestWords(t *testing.T) {
	s := New()
	say(t, s, "", "error 27", "   ", "error 27", "x", "error 27", "OPEN", "error 27", "open\n", "error 27", "opened", "error 27", " open  ", "ok 0", "open 1", "error 1", "open x", "error 1", "tick 1", "error 1", "  tick", "ok")
	for _, c := range []string{"end", "break", "upend", "upbreak", "pick", "client", "upstream", "sent", "asked", "feed", "upfeed"} {
		say(t, s, c, "error 1", c+" x", "error 1", c+" -1", "error 1", c+" +0", "error 1", c+" 1000000000", "error 1", c+" 0000000000", "error 1", c+" 0x0", "error 1")
		if c != "feed" && c != "upfeed" {
			say(t, s, c+" 0 0", "error 1", c+" 0 x", "error 1")
		}
	}
	for _, c := range []string{"take", "uptake"} {
		say(t, s, c, "error 1", c+" 0", "error 1", c+" 0 x", "error 1", c+" 0 1 2", "error 1", c+" 0 1000000000", "error 1")
	}
	say(t, s, "config", "error 1", "config 1 2", "error 1", "config 1 2 3 4", "error 1", "config 0 1 1", "error 1", "config 1 4097 1", "error 1", "config 1 1 1025", "error 1", "config 1 1 x", "error 1", "client 0", "state 0 requests 0 answers 0 held 0 written 0", "config 0005 1 000000001", "ok", "client 0", "error 26")
	say(t, s, "wash", "error 1", "wash  ", "error 1", "wash -", `<!DOCTYPE html><html><head><meta charset="utf-8"></head><body></body></html>`)
}

// X1: the sizes of its loop.
func TestSizes(t *testing.T) {
	s := New()
	say(t, s, "open", "ok 0", `feed 0 POST / HTTP/1.1\r\nHost: a\r\nContent-Length: 8000\r\n\r\n`+strings.Repeat("x", 8000), "ok", "pick 0", "ok", "client 0", "state 0 requests 0 answers 0 held 974 written 0")
	for i := 0; i < 9; i++ {
		say(t, s, "pick 0", "ok")
	}
	say(t, s, "client 0", "state 0 requests 0 answers 0 held 4046 written 0")
	s = first(t)
	say(t, s, "uptake 0 99", "ok", `upfeed 0 HTTP/1.1 200 x\r\nContent-Length: 8000\r\n\r\n`+strings.Repeat("x", 2000), "ok")
	for i := 0; i < 9; i++ {
		say(t, s, "pick 0", "ok", "upfeed 0 "+strings.Repeat("x", 1000), "ok")
	}
	if got := s.Do("client 0"); !strings.HasSuffix(got, " written 4096") {
		t.Errorf("what is written: %s", got)
	}
}

// X2: the loop's errors.
func TestErrors(t *testing.T) {
	s := New()
	say(t, s, "feed 0 x", "error 1", "pick 0", "error 1", "take 0 1", "error 1", "client 0", "error 26", "sent 0", "error 26", "open", "ok 0", "open", "ok 1", "open", "ok 2", "open", "ok 3", "open", "error 28", "client 3", "state 0 requests 0 answers 0 held 0 written 0", "client 4", "error 26", "client 999999999", "error 26", "upfeed 0 x", "error 26", "upend 1", "error 26", "upbreak 2", "error 26", "uptake 3 1", "error 26", "upstream 0", "error 26", "asked 0", "error 26", "sent 3", "", "upend 4", "error 1")
}

// X2: what each step does.
func TestSteps(t *testing.T) {
	s := New()
	say(t, s, "config 100 100 50", "ok", "open", "ok 0", "open", "ok 1", "feed 1 "+h, "ok", "pick 1", "ok", "upstream 0", "client 1 state 0 written 27", "uptake 1 27", "ok", `upfeed 1 HTTP/1.1 204 x\r\n\r\n`, "ok", "pick 1", "ok", "sent 1", `HTTP/1.1 204 x\r\nX-Content-Type-Options: nosniff\r\n\r\n`, "take 1 9", "ok", "upbreak 1", "ok", "pick 1", "ok", "upstream 0", "client 1 state 3 written 27", "end 1", "ok", "pick 1", "ok", "client 1", "state 1 requests 1 answers 1 held 0 written 51", "take 1 99", "ok", "client 1", "state 2 requests 1 answers 1 held 0 written 51", "break 0", "ok", "client 0", "state 3 requests 0 answers 0 held 0 written 0", "feed 0 x", "ok", "pick 0", "ok")
}

// X2: texts, read and told.
func TestTexts(t *testing.T) {
	const begin, end = `<!DOCTYPE html><html><head><meta charset="utf-8"></head><body>`, `</body></html>`
	s := New()
	say(t, s, `wash utf-8 a\tb\nc\\d\x41\x7eé`, begin+`a\tb\nc\\dA~\xc3\xa9`+end, `wash  -  <pre>  x`, begin+"<pre>  x</pre>"+end, `wash - \xE4\xe4`, begin+`\xc3\xa4\xc3\xa4`+end, `wash latin1 "~`, begin+`"~`+end, "wash - a\x01\x7f\rb", begin+`a\nb`+end)
	for _, text := range []string{`\`, `\\\`, `a\`, `\q`, `\x`, `\x4`, `\xg1`, `\x1g`, `\x 1`, `\X41`, `\R`, `\0`, `\"`} {
		say(t, s, "wash - "+text, "error 1")
	}
	say(t, s, "open", "ok 0", "feed 0", "ok", "feed 0 ", "ok", "feed 0  ", "ok", "feed  0 G", "ok", "pick 0", "ok", "client 0", "state 0 requests 0 answers 0 held 2 written 0", `wash - `+strings.Repeat("x", 8193), "error 23")
	all := make([]byte, 256)
	for i := range all {
		all[i] = byte(i)
	}
	told := tell(all)
	if b, ok := parse(told); !ok || string(b) != string(all) || strings.ContainsAny(told, "\r\n\t\x00\x7f\xff") {
		t.Errorf("tell of all bytes: %q", told)
	}
}

// X2: what is answered an error changes nothing.
func TestUnchanged(t *testing.T) {
	s := first(t)
	for _, l := range []string{"config 0 0 0", "feed 0 \\q", "upfeed 0 \\", "pick 9", "open x", "", "take 0 x", "wash utf-16 a"} {
		if got := s.Do(l); !strings.HasPrefix(got, "error ") {
			t.Errorf("%q: %q", l, got)
		}
	}
	say(t, s, "client 0", "state 0 requests 1 answers 0 held 0 written 0", "upstream 0", "client 0 state 0 written 27", "asked 0", h)
}
