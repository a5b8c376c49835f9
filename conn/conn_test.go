package conn

import (
	"math/rand"
	"testing"

	"colander/api"
)

// C1: New.
func TestNew(t *testing.T) {
	for _, n := range [][2]int{{0, 1}, {1, 0}, {-1, 1}, {1, -1}, {4097, 1}, {1, 4097}, {0, 0}} {
		if New(n[0], n[1]) != nil {
			t.Errorf("New(%d, %d) is not nil", n[0], n[1])
		}
	}
	c := New(4096, 1)
	if c == nil || c.State() != api.Open || c.Waiting() != 0 || c.Room() != 1 || c.Left() != 0 || c.Ended() || len(c.Written()) != 0 || New(1, 4096) == nil {
		t.Errorf("New")
	}
}

// The document's example.
func TestExample(t *testing.T) {
	c := New(3, 2)
	if n := c.Arrive([]byte("abcd")); n != 3 {
		t.Errorf("Arrive: %d", n)
	}
	if s := string(c.Read(2)); s != "ab" {
		t.Errorf("Read: %q", s)
	}
	c.End()
	if n := c.Arrive([]byte("x")); n != 0 || c.Ended() {
		t.Errorf("Arrive behind End: %d, %v", n, c.Ended())
	}
	if s := string(c.Read(9)); s != "c" || !c.Ended() {
		t.Errorf("Read: %q, %v", s, c.Ended())
	}
	if n := c.Write([]byte("xyz")); n != 2 || c.Left() != 2 || c.Room() != 0 {
		t.Errorf("Write: %d", n)
	}
	if c.Close(); c.State() != api.Closing || c.Ended() {
		t.Errorf("Close: %d", c.State())
	}
	if n := c.Write([]byte("q")); n != 0 {
		t.Errorf("Write behind Close: %d", n)
	}
	if s := string(c.Taken(1)); s != "x" || c.State() != api.Closing {
		t.Errorf("Taken: %q, %d", s, c.State())
	}
	if s := string(c.Taken(1)); s != "y" || c.State() != api.Closed {
		t.Errorf("Taken: %q, %d", s, c.State())
	}
	if c.Abort(); c.State() != api.Closed || string(c.Written()) != "xy" {
		t.Errorf("Abort: %d, %q", c.State(), c.Written())
	}
}

// C2, C3: Break and Abort, Close, in every state.
func TestStates(t *testing.T) {
	full := func() *Conn {
		c := New(9, 9)
		c.Arrive([]byte("ab"))
		c.Write([]byte("xy"))
		return c
	}
	for i, end := range []func(c *Conn){(*Conn).Break, (*Conn).Abort} {
		c := full()
		end(c)
		if c.State() != api.Aborted || c.Waiting() != 0 || c.Left() != 0 || len(c.Peek(9)) != 0 || len(c.Taken(9)) != 0 || string(c.Written()) != "xy" || c.Room() != 9 {
			t.Errorf("%d: open: %d", i, c.State())
		}
		if c.Close(); c.State() != api.Aborted || c.Arrive([]byte("a")) != 0 || c.Write([]byte("a")) != 0 {
			t.Errorf("%d: Close behind it: %d", i, c.State())
		}
		c = full()
		c.Close()
		if end(c); c.State() != api.Aborted || c.Left() != 0 {
			t.Errorf("%d: closing: %d", i, c.State())
		}
		c = full()
		c.Taken(2)
		c.Close()
		if end(c); c.State() != api.Closed {
			t.Errorf("%d: closed: %d", i, c.State())
		}
	}
	c := full()
	c.Close()
	if c.State() != api.Closing || c.Waiting() != 0 || c.Left() != 2 || c.Arrive([]byte("c")) != 0 || c.Room() != 7 {
		t.Errorf("closing")
	}
	if c.Taken(0); c.State() != api.Closing {
		t.Errorf("closing, and none taken")
	}
	if c.Close(); c.State() != api.Closing {
		t.Errorf("Close again")
	}
}

// C4: Ended.
func TestEnded(t *testing.T) {
	c := New(2, 2)
	c.End()
	if !c.Ended() || c.Arrive([]byte("a")) != 0 || c.Write([]byte("b")) != 1 {
		t.Errorf("an end at once")
	}
	c.Close()
	if c.Ended() {
		t.Errorf("Ended of one that is not open")
	}
	c = New(2, 2)
	c.Arrive([]byte("a"))
	c.End()
	c.End()
	if c.Ended() || string(c.Peek(5)) != "a" || c.Ended() {
		t.Errorf("Ended while bytes wait")
	}
	c.Break()
	if c.Ended() {
		t.Errorf("Ended of one that is aborted")
	}
}

// C3, R5: Peek leaves the bytes; nothing is shared.
func TestShares(t *testing.T) {
	c := New(9, 9)
	b := []byte("abc")
	c.Arrive(b)
	c.Write(b)
	b[0] = 'x'
	c.Peek(2)[1] = 'y'
	w := c.Written()
	w[2] = 'z'
	_ = append(w[:1], 'q')
	if string(c.Peek(9)) != "abc" || string(c.Read(9)) != "abc" || string(c.Written()) != "abc" || string(c.Taken(9)) != "abc" {
		t.Errorf("memory is shared")
	}
	if len(c.Peek(-1)) != 0 || len(c.Read(0)) != 0 || len(c.Taken(-3)) != 0 {
		t.Errorf("none")
	}
}

// C2, C3: what goes in comes out, and Written is all of it.
func TestOrder(t *testing.T) {
	rnd := rand.New(rand.NewSource(22))
	c := New(5, 3)
	var sent, read, written, taken []byte
	for i := byte(0); i < 250; i++ {
		b := []byte{i, i + 1, i + 2, i + 3}[:rnd.Intn(5)]
		sent = append(sent, b[:c.Arrive(b)]...)
		read = append(read, c.Read(rnd.Intn(4))...)
		written = append(written, b[:c.Write(b)]...)
		taken = append(taken, c.Taken(rnd.Intn(3))...)
	}
	read = append(read, c.Read(9)...)
	taken = append(taken, c.Taken(9)...)
	if string(sent) != string(read) || string(written) != string(taken) || string(c.Written()) != string(written) || c.State() != api.Open {
		t.Errorf("the order is lost")
	}
}
