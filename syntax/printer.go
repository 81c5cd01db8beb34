package syntax

import (
	"strings"

	"beck/api"
	"beck/nt"
	"beck/scan"
	"beck/term"
	"beck/value"
)

// printer has the parts of a text, in order.
type printer struct{ parts []string }

func (w *printer) add(parts ...string) { w.parts = append(w.parts, parts...) }

// text has a blank between all parts; but where that is too long to be parsed again, only between those that need one.
func (w *printer) text() string {
	s := strings.Join(w.parts, " ")
	if len(s) <= api.MaxQuery {
		return s
	}
	var b strings.Builder
	for i, part := range w.parts {
		if i > 0 && goesOn(w.parts[i-1], part) {
			b.WriteByte(' ')
		}
		b.WriteString(part)
	}
	return b.String()
}

// goesOn tells whether a part would be read on into the one behind it, if there were no blank between. (An int would be, too, but no digit stands behind one.)
func goesOn(part, behind string) bool {
	if part == "" || behind == "" {
		return false
	}
	first, last, next := rune(part[0]), rune(part[len(part)-1]), rune(behind[0])
	switch {
	case first == '_', first == '"' && inWord(last): // a label, a language
		return inWord(next) || next == '-'
	case first == '?', inWord(first) && (first < '0' || first > '9'):
		return inWord(next)
	}
	return false
}

func varText(name string) string { return "?" + name }

func iriText(iri string) string { return nt.Text(term.IRI{Text: iri}) }

func intText(n int) string { return value.Text(int64(n)) }

func nodeText(n Node) string {
	if n.Term == nil {
		return varText(n.Var)
	}
	if digits, ok := asDigits(n.Term); ok {
		return digits
	}
	return nt.Text(n.Term)
}

// asDigits tells the text of a literal that is read from an int.
func asDigits(t term.Term) (string, bool) {
	l, ok := t.(term.Literal)
	if !ok || l.Type != term.XInt {
		return "", false
	}
	if _, code := value.Parse(l.Text); code != api.OK || scan.Class(rune(l.Text[0])) != digitSign {
		return "", false
	}
	return l.Text, true
}
