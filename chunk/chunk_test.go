package chunk

import (
	"math"
	"math/rand"
	"strings"
	"testing"

	"colander/api"
)

// outcome is what a reader made of bytes that came in pieces of that size.
type outcome struct {
	meant string
	n     int
	done  bool
	e     api.Errno
}

func read(b api.Body, s string, piece int) outcome {
	r := New(b)
	var o outcome
	for i := 0; i < len(s); i += piece {
		m, n := r.Take([]byte(s[i:min(i+piece, len(s))]))
		o.meant += string(m)
		o.n += n
	}
	o.done, o.e = r.Done(), r.Err()
	return o
}

func check(t *testing.T, b api.Body, s string, want outcome) {
	t.Helper()
	for _, piece := range []int{1, 2, 3, 5, 7, 64, 1000, len(s) + 1} {
		if o := read(b, s, piece); o != want {
			t.Errorf("%.80q by %d: %+v; not %+v", s, piece, o, want)
		}
	}
}

func body(kind int, length int64) api.Body { return api.Body{Kind: kind, Length: length} }

// K1: which bodies may be.
func TestNew(t *testing.T) {
	for _, b := range []api.Body{body(-1, 0), body(4, 0), body(api.BodyLength, -1), body(api.BodyLength, 8193), body(api.BodyLength, math.MaxInt64), body(api.BodyLength, math.MinInt64), body(math.MaxInt, 0)} {
		if New(b) != nil {
			t.Errorf("New(%+v) is not nil", b)
		}
	}
	for _, b := range []api.Body{body(0, -1), body(api.BodyLength, 0), body(api.BodyLength, 8192), body(api.BodyChunked, -1), body(api.BodyClose, 1<<60)} {
		if New(b) == nil {
			t.Errorf("New(%+v) is nil", b)
		}
	}
}

// K2: a body that is none, of a length, up to the end.
func TestPlain(t *testing.T) {
	check(t, body(api.BodyNone, 0), "abc", outcome{"", 0, true, 0})
	check(t, body(api.BodyLength, 0), "abc", outcome{"", 0, true, 0})
	check(t, body(api.BodyLength, 2), "abc", outcome{"ab", 2, true, 0})
	check(t, body(api.BodyLength, 5), "a\r\n\x00", outcome{"a\r\n\x00", 4, false, 0})
	check(t, body(api.BodyClose, 0), "a\r\n", outcome{"a\r\n", 3, false, 0})
	long := strings.Repeat("x", api.MaxBody)
	check(t, body(api.BodyLength, api.MaxBody), long+"y", outcome{long, api.MaxBody, true, 0})
	check(t, body(api.BodyClose, 0), long, outcome{long, api.MaxBody, false, 0})
	check(t, body(api.BodyClose, 0), long+"yz", outcome{long, api.MaxBody + 1, false, api.ErrBody})
}

// K2: chunks that are right.
func TestChunked(t *testing.T) {
	b := body(api.BodyChunked, 0)
	check(t, b, "3\r\nabc\r\n0\r\n\r\nx", outcome{"abc", 13, true, 0})
	check(t, b, "2;q=\"z\"\r\nab\r\n00\r\nT: u\r\n\r\n", outcome{"ab", 25, true, 0})
	check(t, b, "0\r\n\r\n", outcome{"", 5, true, 0})
	check(t, b, "1\r\n\r\r\n1;\t\xff\r\n\n\r\n0;\r\nA:\r\nb:\tc \r\n\r\n0", outcome{"\r\n", 32, true, 0})
	check(t, b, "a\r\n0123456789\r\nB\r\n0123456789a\r\n", outcome{"01234567890123456789a", 31, false, 0})
	check(t, b, "0; ~ \r\n\r\n", outcome{"", 9, true, 0})
	check(t, b, "3\r\nab", outcome{"ab", 5, false, 0})
	line := "0;" + strings.Repeat("x", 60) + "\r\n"
	check(t, b, line+"\r\n", outcome{"", 66, true, 0})
	check(t, b, "0\r\na:"+strings.Repeat("x", 60)+"\r\n\r\n", outcome{"", 69, true, 0})
	check(t, b, strings.Repeat("0", 61)+"1\r\nx\r\n0\r\n\r\n", outcome{"x", 72, true, 0})
	check(t, b, "0\r\n"+strings.Repeat("a: b\r\n", 32)+"\r\n", outcome{"", 197, true, 0})
	long := strings.Repeat("y", api.MaxBody)
	check(t, b, "2000\r\n"+long+"\r\n0\r\n\r\n", outcome{long, 6 + api.MaxBody + 7, true, 0})
}

// K2: chunks that are wrong, and at which byte.
func TestChunkedWrong(t *testing.T) {
	b := body(api.BodyChunked, 0)
	for _, a := range []struct {
		s, meant string
		n        int
		e        api.Errno
	}{
		{"g\r\nx", "", 3, api.ErrChunk}, {"3\nabc", "", 2, api.ErrChunk}, {"1\r\nabc", "a", 5, api.ErrChunk}, {"2001\r\nx", "", 6, api.ErrBody},
		{"\r\nx", "", 2, api.ErrChunk}, {"\nx", "", 1, api.ErrChunk}, {"1\rx", "", 3, api.ErrChunk}, {"1\r\rx", "", 3, api.ErrChunk}, {"-1\r\nx", "", 4, api.ErrChunk}, {"0x1\r\nx", "", 5, api.ErrChunk}, {" 1\r\nx", "", 4, api.ErrChunk}, {"1 \r\nx", "", 4, api.ErrChunk}, {";\r\nx", "", 3, api.ErrChunk}, {"1 ;x\r\nx", "", 6, api.ErrChunk},
		{"1;\x00\r\nx", "", 5, api.ErrChunk}, {"1;\x7f\r\nx", "", 5, api.ErrChunk}, {"1\t\r\nx", "", 4, api.ErrChunk},
		{"1\r\nab\r\n", "a", 5, api.ErrChunk}, {"1\r\na\rb", "a", 6, api.ErrChunk}, {"1\r\na\n\n", "a", 5, api.ErrChunk}, {"1\r\na\r\r", "a", 6, api.ErrChunk},
		{"7fffffffffffffff\r\nx", "", 18, api.ErrBody}, {"8000000000000000\r\nx", "", 18, api.ErrChunk}, {"1\r\na\r\n7fffffffffffffff\r\nx", "a", 24, api.ErrBody}, {"1\r\na\r\n2000\r\nx", "a", 12, api.ErrBody},
		{strings.Repeat("0", 65), "", 64, api.ErrChunk}, {strings.Repeat("0", 63) + "\r\n", "", 64, api.ErrChunk}, {"0;" + strings.Repeat("x", 61) + "\r\n\r\n", "", 64, api.ErrChunk},
		{"0\r\n a: b\r\n\r\n", "", 10, api.ErrChunk}, {"0\r\na b\r\n\r\n", "", 8, api.ErrChunk}, {"0\r\na : b\r\n\r\n", "", 10, api.ErrChunk}, {"0\r\n: b\r\n\r\n", "", 8, api.ErrChunk}, {"0\r\na: \x01\r\n\r\n", "", 9, api.ErrChunk}, {"0\r\na\nx", "", 5, api.ErrChunk}, {"0\r\n\rx", "", 5, api.ErrChunk}, {"0\r\na:" + strings.Repeat("x", 99), "", 3 + 64, api.ErrChunk},
		{"0\r\n" + strings.Repeat("a: b\r\n", 33) + "\r\n", "", 3 + 33*6, api.ErrChunk},
	} {
		check(t, b, a.s, outcome{a.meant, a.n, false, a.e})
	}
}

// K3: the connection's end.
func TestEnd(t *testing.T) {
	for _, a := range []struct {
		b    api.Body
		s    string
		done bool
		e    api.Errno
	}{
		{body(api.BodyNone, 0), "", true, 0}, {body(api.BodyLength, 1), "", false, api.ErrShort}, {body(api.BodyLength, 1), "a", true, 0}, {body(api.BodyLength, 0), "", true, 0}, {body(api.BodyClose, 0), "", true, 0}, {body(api.BodyClose, 0), "ab", true, 0}, {body(api.BodyClose, 0), strings.Repeat("x", 8193), false, api.ErrBody},
		{body(api.BodyChunked, 0), "", false, api.ErrShort}, {body(api.BodyChunked, 0), "3\r\nab", false, api.ErrShort}, {body(api.BodyChunked, 0), "0\r\n", false, api.ErrShort}, {body(api.BodyChunked, 0), "0\r\n\r\n", true, 0}, {body(api.BodyChunked, 0), "x\r\n", false, api.ErrChunk},
	} {
		r := New(a.b)
		r.Take([]byte(a.s))
		r.End()
		r.End()
		if r.Done() != a.done || r.Err() != a.e {
			t.Errorf("%+v, %.20q: %v, %d", a.b, a.s, r.Done(), r.Err())
		}
		if m, n := r.Take([]byte("a")); len(m) != 0 || n != 0 {
			t.Errorf("%+v, %.20q: a byte is taken behind the end", a.b, a.s)
		}
	}
}

// K4: chunks as they are written.
func TestChunk(t *testing.T) {
	if len(Chunk(nil)) != 0 || len(Chunk([]byte{})) != 0 || string(Last()) != "0\r\n\r\n" {
		t.Errorf("nothing, and the last one")
	}
	if s := string(Chunk([]byte("0123456789abcdefg\r\n"))); s != "13\r\n0123456789abcdefg\r\n\r\n" {
		t.Errorf("Chunk: %q", s)
	}
}

// What follows: chunks of any pieces are read as these.
func TestBack(t *testing.T) {
	rnd := rand.New(rand.NewSource(7))
	for i := 0; i < 200; i++ {
		var all, text []byte
		for len(all) < 8000 && rnd.Intn(9) > 0 {
			b := make([]byte, rnd.Intn(200))
			rnd.Read(b)
			all = append(all, b...)
			text = append(text, Chunk(b)...)
		}
		text = append(text, Last()...)
		check(t, body(api.BodyChunked, 0), string(text)+"0", outcome{string(all), len(text), true, 0})
	}
}
