package scan

import (
	"strings"

	"beck/api"
)

// hexDigits are those that are written.
const hexDigits = "0123456789ABCDEF"

// escapes are the letters that stand, behind a backslash, for signs.
var escapes = [...]struct{ letter, sign rune }{
	{'t', '\t'},
	{'n', '\n'},
	{'r', '\r'},
	{'b', '\b'},
	{'f', '\f'},
	{'"', '"'},
	{'\\', '\\'},
}

// Quote: a text, quoted.
func Quote(s string) string {
	var b strings.Builder
	b.WriteByte('"')
signs:
	for _, r := range s {
		for _, e := range escapes {
			if r == e.sign {
				b.WriteByte('\\')
				b.WriteRune(e.letter)
				continue signs
			}
		}
		if Class(r) == control {
			writeNumber(&b, r)
		} else {
			b.WriteRune(r)
		}
	}
	b.WriteByte('"')
	return b.String()
}

// writeNumber writes a sign below U+10000 by its number.
func writeNumber(b *strings.Builder, r rune) {
	b.WriteString(`\u`)
	for i := range 4 {
		b.WriteByte(hexDigits[r>>(12-4*i)&15])
	}
}

// Quoted: a quoted text.
func (s *Scanner) Quoted() (string, int, api.Errno) {
	from := s.place
	text, ok := s.readQuoted()
	if ok {
		return text, s.place, api.OK
	}
	place := s.place
	s.place = from
	return "", place, api.ErrForm
}

// readQuoted reads a quoted text; if none follows, it stops at the sign that can't stand there, or at the end.
func (s *Scanner) readQuoted() (string, bool) {
	if s.Peek() != '"' {
		return "", false
	}
	s.place++
	var b strings.Builder
	for !s.End() {
		r := s.Next()
		switch r {
		case '"':
			return b.String(), true
		case '\n', '\r':
			s.place--
			return "", false
		case '\\':
			var ok bool
			if r, ok = s.readEscape(); !ok {
				return "", false
			}
		}
		b.WriteRune(r)
	}
	return "", false
}

// readEscape reads what stands behind a backslash, or stops as readQuoted does.
func (s *Scanner) readEscape() (rune, bool) {
	switch s.Peek() {
	case 'u':
		s.place++
		return s.readNumber(4)
	case 'U':
		s.place++
		return s.readNumber(8)
	}
	sign, ok := escaped(s.Peek())
	if ok {
		s.place++
	}
	return sign, ok
}

// escaped tells the sign that one behind a backslash stands for.
func escaped(r rune) (rune, bool) {
	// It is read, but never written: so it isn't in the table.
	if r == '\'' {
		return r, true
	}
	for _, e := range escapes {
		if r == e.letter {
			return e.sign, true
		}
	}
	return 0, false
}

// readNumber reads a sign by the digits of its number, or stops as readQuoted does.
func (s *Scanner) readNumber(many int) (rune, bool) {
	// Eight digits just fill a rune: a number that is too great comes out as one beyond all signs, or below 0.
	var r rune
	for range many {
		d := Hex(s.Peek())
		if d < 0 {
			return 0, false
		}
		r = r<<4 | rune(d)
		s.place++
	}
	if Class(r) == none {
		s.place-- // only with its last digit is it known to be no sign's
		return 0, false
	}
	return r, true
}
