package shell

import (
	"colander/api"
	"colander/num"
)

// parse reads a text: the bytes that it stands for.
func parse(s string) ([]byte, bool) {
	var b []byte
	for i := 0; i < len(s); i++ {
		if s[i] != '\\' {
			b = append(b, s[i])
			continue
		}
		c, n := escaped(s[i+1:])
		if n == 0 {
			return nil, false
		}
		b = append(b, c)
		i += n
	}
	return b, true
}

// escaped is the byte that what stands behind a \ stands for, and how many bytes that has; 0: it may not stand there.
func escaped(s string) (byte, int) {
	if s == "" {
		return 0, 0
	}
	switch s[0] {
	case 'r':
		return '\r', 1
	case 'n':
		return '\n', 1
	case 't':
		return '\t', 1
	case '\\':
		return '\\', 1
	case 'x':
		if len(s) > 2 {
			n, e := num.Hex(s[1:3])
			if e == api.OK {
				return byte(n), 3
			}
		}
	}
	return 0, 0
}

// tell writes bytes as a text.
func tell(b []byte) string {
	var s []byte
	for _, c := range b {
		switch {
		case c == '\r':
			s = append(s, `\r`...)
		case c == '\n':
			s = append(s, `\n`...)
		case c == '\t':
			s = append(s, `\t`...)
		case c == '\\':
			s = append(s, `\\`...)
		case c < 32 || c > 126:
			h := "0" + num.Hexes(int64(c))
			s = append(s, `\x`+h[len(h)-2:]...)
		default:
			s = append(s, c)
		}
	}
	return string(s)
}
