// Package ring is layer 1: see shared/doc/01-ring.md.
package ring

import "colander/api"

// Ring is a queue of bytes of a bounded length.
type Ring struct {
	room  []byte // gone round: behind its last byte comes its first one
	first int    // where the oldest byte lies
	n     int    // how many bytes are in it
}

// New is an empty one for so many bytes; nil: that may not be (B1).
func New(most int) *Ring {
	if most < 1 || most > api.MaxRing {
		return nil
	}
	return &Ring{room: make([]byte, most)}
}

// Len tells how many bytes are in it (B2).
func (r *Ring) Len() int { return r.n }

// Room tells how many more bytes may be in it (B2).
func (r *Ring) Room() int { return len(r.room) - r.n }

// Put puts the first bytes of b in, as many as there is room for: how many (B2).
func (r *Ring) Put(b []byte) int {
	n := min(len(b), r.Room())
	free := (r.first + r.n) % len(r.room)
	done := copy(r.room[free:], b[:n])
	copy(r.room, b[done:n])
	r.n += n
	return n
}

// Take takes the first n bytes out (B2).
func (r *Ring) Take(n int) []byte {
	b := r.Peek(n)
	r.first = (r.first + len(b)) % len(r.room)
	r.n -= len(b)
	return b
}

// Peek tells the bytes that Take would give (B2).
func (r *Ring) Peek(n int) []byte {
	n = min(n, r.n)
	if n < 1 {
		return nil
	}
	b := make([]byte, n)
	done := copy(b, r.room[r.first:])
	copy(b[done:], r.room)
	return b
}

// Clear takes all bytes out (B2).
func (r *Ring) Clear() { r.first, r.n = 0, 0 }
