package fields

import (
	"reflect"
	"strings"
	"testing"

	"colander/api"
	"colander/lex"
)

func example() []api.Field {
	return []api.Field{{Name: "Host", Value: "a"}, {Name: "x", Value: "1, 2"}, {Name: "X", Value: `"3,4"`}, {Name: "y"}}
}

// V1: the first field that is not right, and why.
func TestRight(t *testing.T) {
	many := make([]api.Field, api.MaxFields+1)
	for i := range many {
		many[i].Name = "a"
	}
	for _, a := range []struct {
		l []api.Field
		n int
		e api.Errno
	}{
		{nil, 0, 0}, {example(), 0, 0}, {many[1:], 0, 0}, {many, api.MaxFields, api.ErrFields}, {make([]api.Field, 40), api.MaxFields, api.ErrFields},
		{[]api.Field{{Name: "a b"}}, 0, api.ErrName}, {[]api.Field{{Name: ""}}, 0, api.ErrName}, {[]api.Field{{Name: "a"}, {Name: "b:"}}, 1, api.ErrName},
		{[]api.Field{{Name: "a", Value: "b "}}, 0, api.ErrValue}, {[]api.Field{{Name: "a", Value: "\tb"}}, 0, api.ErrValue}, {[]api.Field{{Name: "a", Value: " "}}, 0, api.ErrValue},
		{[]api.Field{{Name: "a", Value: "b\tc é\x80"}}, 0, 0}, {[]api.Field{{Name: "a"}, {Name: "a", Value: "b\nc"}}, 1, api.ErrValue}, {[]api.Field{{Name: "a", Value: "\x7f"}}, 0, api.ErrValue}, {[]api.Field{{Name: "a", Value: "b\x00c"}}, 0, api.ErrValue}, {[]api.Field{{Name: "a", Value: "\x1f"}}, 0, api.ErrValue},
		{[]api.Field{{Name: " ", Value: "\n"}, {Name: "a", Value: "\n"}}, 0, api.ErrName}, {[]api.Field{{Name: "a", Value: "\n"}, {Name: " "}}, 0, api.ErrValue},
	} {
		if n, e := Right(a.l); n != a.n || e != a.e {
			t.Errorf("Right(%q): %d, %d; not %d, %d", a.l, n, e, a.n, a.e)
		}
	}
}

// V2: All, Count, Without.
func TestNames(t *testing.T) {
	l := example()
	if v := All(l, "x"); !reflect.DeepEqual(v, []string{"1, 2", `"3,4"`}) || Count(l, "X") != 2 {
		t.Errorf("All: %q, %d", v, Count(l, "X"))
	}
	if v := All(l, "z"); len(v) != 0 || Count(l, "z") != 0 || Count(nil, "") != 0 {
		t.Errorf("All of no name: %q", v)
	}
	if v := All(l, "HOST"); len(v) != 1 || v[0] != "a" {
		t.Errorf("All of HOST: %q", v)
	}
	if v := Without(l, "X", "HOST"); len(v) != 1 || v[0].Name != "y" {
		t.Errorf("Without: %q", v)
	}
	if v := Without(l); !reflect.DeepEqual(v, l) {
		t.Errorf("Without no names: %q", v)
	}
	if v := Without(l, "hos", "hostt", ""); !reflect.DeepEqual(v, l) {
		t.Errorf("Without names that are none: %q", v)
	}
	wrong := []api.Field{{Name: "\x00\n"}, {Name: ""}, {Name: "\x00\n", Value: "b"}}
	if Count(wrong, "\x00\n") != 2 || Count(wrong, "") != 1 || len(Without(wrong, "")) != 2 {
		t.Errorf("any names")
	}
}

// R5: what Without tells is new memory.
func TestShares(t *testing.T) {
	l := example()
	v := Without(l, "y")
	v[0].Value = "changed"
	if !reflect.DeepEqual(l, example()) {
		t.Errorf("Without shares memory")
	}
}

// V3: Members are those of one list of all values.
func TestMembers(t *testing.T) {
	l := example()
	if m, e := Members(l, "X"); e != api.OK || !reflect.DeepEqual(m, []string{"1", "2", `"3,4"`}) {
		t.Errorf("Members: %q, %d", m, e)
	}
	joined, _ := lex.List(strings.Join(All(l, "x"), ","))
	if m, _ := Members(l, "x"); !reflect.DeepEqual(m, joined) {
		t.Errorf("Members: %q, not %q", m, joined)
	}
	if m, e := Members(l, "z"); len(m) != 0 || e != api.OK {
		t.Errorf("Members of none: %q, %d", m, e)
	}
	l = append(l, api.Field{Name: "x", Value: `"`})
	if m, e := Members(l, "x"); len(m) != 0 || e != api.ErrQuote {
		t.Errorf("Members that are none: %q, %d", m, e)
	}
	if _, e := Members(l, "host"); e != api.OK {
		t.Errorf("Members of another name: %d", e)
	}
}

// V4: Text.
func TestText(t *testing.T) {
	for _, a := range []struct {
		l []api.Field
		s string
	}{{nil, ""}, {Without(example(), "X", "HOST"), "y:\r\n"}, {example(), "Host: a\r\nx: 1, 2\r\nX: \"3,4\"\r\ny:\r\n"}, {[]api.Field{{Name: "a", Value: "b"}, {Name: "a b"}}, ""}, {[]api.Field{{Name: "a", Value: "b\r\nc: d"}}, ""}, {make([]api.Field, 33), ""}} {
		if s := Text(a.l); s != a.s {
			t.Errorf("Text(%q): %q", a.l, s)
		}
	}
}
