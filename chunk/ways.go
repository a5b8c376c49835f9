package chunk

import (
	"strings"

	"colander/api"
	"colander/head"
	"colander/num"
)

// none is no body.
type none struct{}

func (none) take(byte) bool { return false }
func (none) end()           {}
func (none) done() bool     { return true }
func (none) err() api.Errno { return api.OK }

// counted is a body of a length.
type counted struct {
	left  int
	short bool
}

func (w *counted) take(byte) bool { w.left--; return true }
func (w *counted) end()           { w.short = true }
func (w *counted) done() bool     { return w.left == 0 }

func (w *counted) err() api.Errno {
	if w.short {
		return api.ErrShort
	}
	return api.OK
}

// closed is a body up to the connection's end.
type closed struct {
	n     int
	ended bool
}

func (w *closed) take(byte) bool { w.n++; return w.n <= api.MaxBody }
func (w *closed) end()           { w.ended = true }
func (w *closed) done() bool     { return w.ended }

func (w *closed) err() api.Errno {
	if w.n > api.MaxBody {
		return api.ErrBody
	}
	return api.OK
}

// The parts of a chunked body.
const (
	inSize = iota
	inData
	inDataEnd
	inTrailers
	inNothing
)

// chunked is a body of chunks.
type chunked struct {
	part     int
	line     []byte // what was taken of a line, or of a data's end
	left     int    // how many bytes of this chunk's data are to come
	meant    int
	trailers int
	wrong    api.Errno
}

func (w *chunked) end()           { w.wrong = api.ErrShort }
func (w *chunked) done() bool     { return w.part == inNothing }
func (w *chunked) err() api.Errno { return w.wrong }

func (w *chunked) take(c byte) bool {
	if w.part != inData {
		w.lineByte(c)
		return false
	}
	w.meant++
	w.left--
	if w.left == 0 {
		w.part = inDataEnd
	}
	return true
}

// lineByte takes a byte of a line; the CR LF behind data is a line that must be empty.
func (w *chunked) lineByte(c byte) {
	n := len(w.line)
	behind := n > 0 && w.line[n-1] == '\r'
	w.line = append(w.line, c)
	switch {
	case behind != (c == '\n'), w.part == inDataEnd && n == 0 && c != '\r':
		w.wrong = api.ErrChunk
	case behind:
		line := string(w.line[:n-1])
		w.line = nil
		w.lineEnds(line)
	case n+1 == api.MaxLine:
		w.wrong = api.ErrChunk
	}
}

func (w *chunked) lineEnds(line string) {
	switch {
	case w.part == inDataEnd:
		w.part = inSize
	case w.part == inSize:
		w.size(line)
	case line == "":
		w.part = inNothing
	case w.trailers == api.MaxFields || !trailer(line):
		w.wrong = api.ErrChunk
	default:
		w.trailers++
	}
}

// size is what a size line says.
func (w *chunked) size(line string) {
	digits, extension, _ := strings.Cut(line, ";")
	n, e := num.Hex(digits)
	switch {
	case e != api.OK || !plain(extension):
		w.wrong = api.ErrChunk
	case n > int64(api.MaxBody-w.meant):
		w.wrong = api.ErrBody
	case n == 0:
		w.part = inTrailers
	default:
		w.part, w.left = inData, int(n)
	}
}

// plain tells whether a chunk's extension has only bytes that it may have.
func plain(s string) bool {
	for i := 0; i < len(s); i++ {
		if s[i] < ' ' && s[i] != '\t' || s[i] == 127 {
			return false
		}
	}
	return true
}

// trailer tells whether a line may stand in a head.
func trailer(line string) bool {
	_, err := head.Response("HTTP/1.1 200 \r\n" + line + "\r\n\r\n")
	return err == nil
}
