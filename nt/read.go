package nt

import (
	"slices"
	"strings"

	"beck/api"
	"beck/scan"
	"beck/term"
)

// Classes of signs, by package scan's numbers.
const (
	letterSign = 1
	digitSign  = 2
	noSign     = 6
)

// Read: the term that follows.
func Read(s *scan.Scanner) (term.Term, int, api.Errno) {
	if s == nil { // nothing follows where there is no text
		return nil, 0, api.ErrForm
	}
	from := s.Place()
	t, ok := readForm(s)
	place := s.Place()
	switch {
	case !ok:
		s.Back(from)
		return nil, place, api.ErrForm
	case !term.Good(t):
		s.Back(from)
		return nil, from, api.ErrTerm
	}
	return t, place, api.OK
}

// readForm reads what has a term's form, be it good or not; if nothing has, it stops at the sign that can't stand there, or at the end.
func readForm(s *scan.Scanner) (term.Term, bool) {
	switch s.Peek() {
	case '<':
		text, ok := readIRI(s)
		return term.IRI{Text: text}, ok
	case '"':
		return readLiteral(s)
	case '_':
		s.Next()
		if !s.Is(":") {
			return nil, false
		}
		return term.Blank{Label: readWord(s, '_', '-')}, true
	}
	return nil, false
}

// readWord reads letters, digits, and marks that may go on in such a word, as many as there are.
func readWord(s *scan.Scanner, marks ...rune) string {
	var b strings.Builder
	for {
		b.WriteString(s.Run(letterSign, digitSign))
		if !slices.Contains(marks, s.Peek()) {
			return b.String()
		}
		b.WriteRune(s.Next())
	}
}

// readLiteral reads a literal, or stops as readForm does.
func readLiteral(s *scan.Scanner) (term.Literal, bool) {
	text, place, code := s.Quoted()
	if code != api.OK {
		s.Back(place)
		return term.Literal{}, false
	}
	switch {
	case s.Is("^^"): // a single one may go on in what stands behind the literal
		kind, ok := readIRI(s)
		return term.Literal{Text: text, Type: kind}, ok
	case s.Is("@"):
		return term.Literal{Text: text, Type: term.XLang, Lang: readWord(s, '-')}, true
	}
	return term.Plain(text), true
}

// readIRI reads an IRI's text between its marks, or stops as readForm does.
func readIRI(s *scan.Scanner) (string, bool) {
	if !s.Is("<") {
		return "", false
	}
	var b strings.Builder
	for !s.End() && s.Peek() != '\n' {
		r := s.Next()
		switch r {
		case '>':
			return b.String(), true
		case '\\':
			var ok bool
			if r, ok = readEscape(s); !ok {
				return "", false
			}
		}
		b.WriteRune(r)
	}
	return "", false
}

// readEscape reads what stands behind an IRI's backslash, or stops as readForm does.
func readEscape(s *scan.Scanner) (rune, bool) {
	switch {
	case s.Is("u"):
		return readNumber(s, 4)
	case s.Is("U"):
		return readNumber(s, 8)
	}
	return 0, false
}

// readNumber reads a sign by the digits of its number, or stops as readForm does.
func readNumber(s *scan.Scanner, many int) (rune, bool) {
	// Eight digits just fill a rune: a number that is too great comes out as one beyond all signs, or below 0.
	var r rune
	for range many {
		d := scan.Hex(s.Peek())
		if d < 0 {
			return 0, false
		}
		r = r<<4 | rune(d)
		s.Next()
	}
	if scan.Class(r) == noSign {
		s.Back(s.Place() - 1) // only with its last digit is it known to be no sign's
		return 0, false
	}
	return r, true
}

// Parse: the triples of lines.
func Parse(s string) ([]Triple, int, api.Errno) {
	x, place, code := scan.New(s)
	if code != api.OK {
		return nil, place, code
	}
	var l []Triple
	for !x.End() {
		if endLine(x) {
			continue
		}
		t, place, code := readTriple(x)
		if code != api.OK {
			return nil, place, code
		}
		l = append(l, t)
		if !endLine(x) {
			return nil, x.Place(), api.ErrForm
		}
	}
	return l, 0, api.OK
}

// endLine goes on to the next line, if nothing but blanks and a remark stands ahead of that; else it stops at the sign that can't stand there.
func endLine(s *scan.Scanner) bool {
	skipBlanks(s)
	if s.Peek() == '#' {
		for !s.End() && s.Peek() != '\n' {
			s.Next()
		}
	}
	return s.End() || s.Is("\n") || s.Is("\r\n")
}

// skipBlanks goes over the blanks that may stand within a line.
func skipBlanks(s *scan.Scanner) {
	for s.Is(" ") || s.Is("\t") {
	}
}

// readTriple reads the triple of a line; of an error it tells the place.
func readTriple(s *scan.Scanner) (Triple, int, api.Errno) {
	var parts [3]term.Term
	for i := range parts {
		skipBlanks(s)
		from := s.Place()
		t, place, code := Read(s)
		switch {
		case code != api.OK:
			return Triple{}, place, code
		case !mayStand(t, i):
			return Triple{}, from, api.ErrTerm
		}
		parts[i] = t
	}
	skipBlanks(s)
	if !s.Is(".") {
		return Triple{}, s.Place(), api.ErrForm
	}
	return Triple{parts[subject], parts[predicate], parts[object]}, 0, api.OK
}
