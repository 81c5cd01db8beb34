package syntax

import (
	"strings"

	"beck/api"
	"beck/nt"
	"beck/scan"
	"beck/term"
	"beck/value"
)

// Classes of signs, by package scan's numbers.
const (
	letterSign = 1
	digitSign  = 2
)

// parser is a scanner that stands where a part begins, or at the end: whoever reads a part goes over the blanks behind it.
type parser struct {
	*scan.Scanner
	inside int // how many groups
}

// fault is what is thrown where a text can't go on.
type fault struct {
	place int
	code  api.Errno
}

// newParser stands at the beginning of a text; of what can't be one it answers the error.
func newParser(s string) (*parser, int, api.Errno) {
	if len(s) > api.MaxQuery {
		return nil, 0, api.ErrMany
	}
	x, place, code := scan.New(s)
	return &parser{Scanner: x}, place, code
}

// whole reads a part that is all of a text. What is thrown on the way is its error.
func whole[T any](p *parser, part func() T) (tree T, place int, code api.Errno) {
	defer func() {
		if thrown := recover(); thrown != nil {
			f := thrown.(fault)
			place, code = f.place, f.code
		}
	}()
	p.Blanks()
	t := part()
	if !p.End() {
		panic(p.unfit())
	}
	return t, 0, api.OK
}

// unfit is the fault of what follows: it can't stand there.
func (p *parser) unfit() fault { return fault{p.Place(), api.ErrForm} }

// inWord tells whether a sign may go on in a word or a var.
func inWord(r rune) bool {
	class := scan.Class(r)
	return class == letterSign || class == digitSign || r == '_'
}

// has reads a word or marks, if they follow.
func (p *parser) has(text string) bool {
	from := p.Place()
	if !p.Is(text) {
		return false
	}
	if inWord(rune(text[0])) && inWord(p.Peek()) {
		p.Back(from)
		return false
	}
	p.Blanks()
	return true
}

// oneOf reads the first of some words or marks that follows, if one does: of those that begin alike the longest is to be told first.
func (p *parser) oneOf(texts ...string) string {
	for _, text := range texts {
		if p.has(text) {
			return text
		}
	}
	return ""
}

// must reads one of some words or marks.
func (p *parser) must(texts ...string) string {
	text := p.oneOf(texts...)
	if text == "" {
		panic(p.unfit())
	}
	return text
}

// some reads a part, and more of them as long as they follow.
func some[T any](part func() T, follows func() bool) []T {
	l := []T{part()}
	for follows() {
		l = append(l, part())
	}
	return l
}

// enclosed reads a part in parentheses.
func enclosed[T any](p *parser, part func() T) T {
	p.must("(")
	t := part()
	p.must(")")
	return t
}

// variable reads a var, and answers its name.
func (p *parser) variable() string {
	if !p.Is("?") || scan.Class(p.Peek()) != letterSign {
		panic(p.unfit())
	}
	var b strings.Builder
	for inWord(p.Peek()) {
		b.WriteRune(p.Next())
	}
	p.Blanks()
	return b.String()
}

// atVariable tells whether a var follows.
func (p *parser) atVariable() bool { return p.Peek() == '?' }

// integer reads an int, below 0 only where it may be, and answers its text and what it is.
func (p *parser) integer(below bool) (string, int) {
	from, sign := p.Place(), ""
	if below && p.Is("-") {
		sign = "-"
	}
	digits := p.Run(digitSign)
	if digits == "" {
		panic(p.unfit())
	}
	n, code := value.Parse(sign + digits)
	if code != api.OK {
		panic(fault{from, code})
	}
	p.Blanks()
	return sign + digits, int(n)
}

// node reads a var, a term, or an int.
func (p *parser) node() Node {
	switch {
	case p.atVariable():
		return Node{Var: p.variable()}
	case scan.Class(p.Peek()) == digitSign:
		return Node{Term: p.number()}
	}
	return Node{Term: p.term()}
}

// number reads an int as a literal.
func (p *parser) number() term.Term {
	from := p.Place()
	digits, _ := p.integer(false)
	t := term.Literal{Text: digits, Type: term.XInt}
	if !t.Good() { // with thousands of noughts its text is longer than a term's may be
		panic(fault{from, api.ErrTerm})
	}
	return t
}

func (p *parser) term() term.Term {
	t, place, code := nt.Read(p.Scanner)
	if code != api.OK {
		panic(fault{place, code})
	}
	p.Blanks()
	return t
}

// iri reads a term that is an IRI, and answers its text.
func (p *parser) iri() string {
	if p.Peek() != '<' {
		panic(p.unfit())
	}
	return term.MustIRI(p.term()).Text
}
