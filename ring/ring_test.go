package ring

import (
	"bytes"
	"math"
	"math/rand"
	"testing"
)

// B1: from 1 to 4096 bytes, nothing else.
func TestNew(t *testing.T) {
	for _, n := range []int{1, 2, 4095, 4096} {
		r := New(n)
		if r == nil || r.Len() != 0 || r.Room() != n {
			t.Errorf("New(%d)", n)
		}
	}
	for _, n := range []int{0, -1, 4097, math.MaxInt, math.MinInt} {
		if New(n) != nil {
			t.Errorf("New(%d) is not nil", n)
		}
	}
}

// B2: the document's example.
func TestExample(t *testing.T) {
	r := New(4)
	if n := r.Put([]byte{1, 2, 3}); n != 3 {
		t.Errorf("Put: %d", n)
	}
	if n := r.Room(); n != 1 {
		t.Errorf("Room: %d", n)
	}
	if n := r.Put([]byte{4, 5}); n != 1 {
		t.Errorf("Put of two: %d", n)
	}
	if b := r.Take(2); !bytes.Equal(b, []byte{1, 2}) {
		t.Errorf("Take: %v", b)
	}
	if n := r.Put([]byte{6, 7, 8}); n != 2 {
		t.Errorf("Put behind Take: %d", n)
	}
	if b := r.Peek(9); !bytes.Equal(b, []byte{3, 4, 6, 7}) {
		t.Errorf("Peek: %v", b)
	}
	if r.Len() != 4 {
		t.Errorf("Len: %d", r.Len())
	}
	r.Clear()
	if r.Len() != 0 || r.Room() != 4 || len(r.Peek(1)) != 0 {
		t.Errorf("Clear")
	}
}

// B2: none below 1, all if there are fewer, nothing of nothing.
func TestEdges(t *testing.T) {
	r := New(3)
	if r.Put(nil) != 0 || len(r.Take(1)) != 0 || len(r.Peek(1)) != 0 {
		t.Errorf("an empty ring")
	}
	r.Put([]byte("ab"))
	for _, n := range []int{0, -1, math.MinInt} {
		if len(r.Take(n)) != 0 || len(r.Peek(n)) != 0 {
			t.Errorf("n is %d", n)
		}
	}
	if string(r.Take(math.MaxInt)) != "ab" || r.Len() != 0 {
		t.Errorf("more than there are")
	}
}

// R5: what comes out is new, what goes in is not kept.
func TestShares(t *testing.T) {
	r := New(4)
	b := []byte("abcd")
	r.Put(b)
	b[0] = 'x'
	p := r.Peek(4)
	p[1] = 'y'
	p = append(p, 'z')
	if string(r.Take(4)) != "abcd" {
		t.Errorf("the ring shares memory")
	}
}

// What follows: bytes come out in their order, each once, in whatever pieces.
func TestOrder(t *testing.T) {
	rnd := rand.New(rand.NewSource(1))
	for _, most := range []int{1, 2, 7, 64} {
		r := New(most)
		var in, out []byte
		next := byte(0)
		for i := 0; i < 2000; i++ {
			b := make([]byte, rnd.Intn(most+2))
			for j := range b {
				b[j] = next + byte(j)
			}
			room := r.Room()
			n := r.Put(b)
			if n != min(room, len(b)) {
				t.Fatalf("Put took %d of %d, room %d", n, len(b), room)
			}
			next += byte(n)
			in = append(in, b[:n]...)
			k := rnd.Intn(most+3) - 1
			peek := r.Peek(k)
			take := r.Take(k)
			if !bytes.Equal(peek, take) {
				t.Fatalf("Peek %v, Take %v", peek, take)
			}
			out = append(out, take...)
			if r.Len() != len(in)-len(out) || r.Room() != most-r.Len() {
				t.Fatalf("Len %d, Room %d", r.Len(), r.Room())
			}
		}
		out = append(out, r.Take(most)...)
		if !bytes.Equal(in, out) {
			t.Errorf("most %d: the order is lost", most)
		}
	}
}
