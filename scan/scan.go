// Package scan is layer 1: texts, sign by sign: see shared/doc/01-scan.md.
package scan

import (
	"slices"
	"strings"
	"unicode/utf8"

	"beck/api"
)

// The classes of signs.
const (
	blank = iota
	letter
	digit
	mark
	control
	far
	none
)

// Good: are bytes a text?
func Good(s string) bool {
	_, bytes := measure(s)
	return bytes == len(s)
}

// Len: how many signs a text has.
func Len(s string) int {
	signs, _ := measure(s)
	return signs
}

// measure tells how many signs, and how many bytes, stand ahead of the first byte that is no sign's.
func measure(s string) (signs, bytes int) {
	for i, r := range s {
		// A range gives U+FFFD in the place of such a byte; but that is a sign, too, where it is spelt out.
		if r == utf8.RuneError && !strings.HasPrefix(s[i:], string(utf8.RuneError)) {
			return signs, i
		}
		signs++
	}
	return signs, len(s)
}

// Class: a sign's.
func Class(r rune) int {
	switch {
	case r == ' ' || r == '\t' || r == '\n' || r == '\r':
		return blank
	case 'a' <= r && r <= 'z' || 'A' <= r && r <= 'Z':
		return letter
	case '0' <= r && r <= '9':
		return digit
	case '!' <= r && r <= '~':
		return mark
	case !utf8.ValidRune(r):
		return none
	case r < 0xA0:
		return control
	}
	return far
}

// Hex: a hexadecimal digit's number.
func Hex(r rune) int {
	switch {
	case '0' <= r && r <= '9':
		return int(r - '0')
	case 'A' <= r && r <= 'F':
		return int(r-'A') + 10
	case 'a' <= r && r <= 'f':
		return int(r-'a') + 10
	}
	return -1
}

// Scanner: a text, and a place.
type Scanner struct {
	signs []rune
	place int
}

// New: at place 0.
func New(s string) (*Scanner, int, api.Errno) {
	signs, bytes := measure(s)
	if bytes < len(s) {
		return nil, signs, api.ErrForm
	}
	x := &Scanner{signs: make([]rune, 0, signs)}
	for _, r := range s {
		x.signs = append(x.signs, r)
	}
	return x, 0, api.OK
}

// Place: how many signs are ahead.
func (s *Scanner) Place() int { return s.place }

// End: is all ahead?
func (s *Scanner) End() bool { return s.place == len(s.signs) }

// Peek: the next sign.
func (s *Scanner) Peek() rune {
	if s.End() {
		return -1
	}
	return s.signs[s.place]
}

// Next: that, and it is ahead.
func (s *Scanner) Next() rune {
	r := s.Peek()
	if !s.End() {
		s.place++
	}
	return r
}

// Is: does a text follow?
func (s *Scanner) Is(text string) bool {
	// Of other bytes a range would give U+FFFD, which may well follow.
	if !Good(text) {
		return false
	}
	place := s.place
	for _, r := range text {
		if place == len(s.signs) || s.signs[place] != r {
			return false
		}
		place++
	}
	s.place = place
	return true
}

// Blanks: how many follow.
func (s *Scanner) Blanks() int {
	from := s.place
	for Class(s.Peek()) == blank {
		s.place++
	}
	return s.place - from
}

// Run: the signs of some classes that follow.
func (s *Scanner) Run(classes ...int) string {
	from := s.place
signs:
	for !s.End() {
		for _, class := range classes {
			if Class(s.Peek()) == class {
				s.place++
				continue signs
			}
		}
		break
	}
	return string(s.signs[from:s.place])
}

// Until: the signs ahead of one.
func (s *Scanner) Until(stop rune) (string, bool) {
	many := slices.Index(s.signs[s.place:], stop)
	if many < 0 {
		return "", false
	}
	from := s.place
	s.place += many + 1
	return string(s.signs[from : from+many]), true
}

// Back: to a place.
func (s *Scanner) Back(place int) bool {
	if place < 0 || place > len(s.signs) {
		return false
	}
	s.place = place
	return true
}
