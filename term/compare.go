package term

import (
	"cmp"
	"slices"

	"beck/api"
	"beck/value"
)

// The kinds, in order.
const (
	blankKind = iota
	iriKind
	literalKind
	otherKind
)

// fields are all that tells one term from another: its kind, and its texts in the order in which they count.
type fields struct {
	kind  int
	texts [3]string
}

// fieldsOf tells what a term is.
func fieldsOf(t Term) fields {
	switch t := t.(type) {
	case Blank:
		return fields{blankKind, [3]string{t.Label}}
	case IRI:
		return fields{iriKind, [3]string{t.Text}}
	case Literal:
		return fields{literalKind, [3]string{t.Text, t.Type, t.Lang}}
	}
	return fields{kind: otherKind}
}

// Kind: 0 blank, 1 IRI, 2 literal, 3 else.
func Kind(t Term) int { return fieldsOf(t).kind }

// Order: -1, 0, 1.
func Order(a, b Term) int {
	x, y := fieldsOf(a), fieldsOf(b)
	return cmp.Or(cmp.Compare(x.kind, y.kind), slices.Compare(x.texts[:], y.texts[:]))
}

// Same: the same term?
func Same(a, b Term) bool {
	x := fieldsOf(a)
	return x.kind != otherKind && x == fieldsOf(b)
}

// AsInt: its integer.
func AsInt(t Term) (int64, api.Errno) {
	l, ok := asLiteral(t)
	if !ok || l.Type != XInt {
		return 0, api.ErrType
	}
	n, code := value.Parse(l.Text)
	if code == api.ErrForm {
		return 0, api.ErrTerm
	}
	return n, code
}

// AsBool: its truth.
func AsBool(t Term) (bool, api.Errno) {
	l, ok := asLiteral(t)
	if !ok || l.Type != XBool {
		return false, api.ErrType
	}
	switch l.Text {
	case "true", "1":
		return true, api.OK
	case "false", "0":
		return false, api.OK
	}
	return false, api.ErrTerm
}

// Equal: of one value?
func Equal(a, b Term) value.Truth {
	if Same(a, b) {
		return value.True
	}
	x, xIsLiteral := asLiteral(a)
	y, yIsLiteral := asLiteral(b)
	switch {
	case !xIsLiteral || !yIsLiteral:
		return value.False
	case x.Type == XInt && y.Type == XInt:
		return equalBy(AsInt, x, y)
	case x.Type == XBool && y.Type == XBool:
		return equalBy(AsBool, x, y)
	case !isKnown(x.Type) || !isKnown(y.Type):
		return value.Wrong
	}
	return value.False
}

// equalBy compares the values of two terms, as read reads them.
func equalBy[V comparable](read func(Term) (V, api.Errno), a, b Term) value.Truth {
	x, codeOfX := read(a)
	y, codeOfY := read(b)
	return truthOf(x == y, cmp.Or(codeOfX, codeOfY))
}

// truthOf is Wrong of what comes with an error.
func truthOf(yes bool, code api.Errno) value.Truth {
	if code != api.OK {
		return value.Wrong
	}
	return value.Of(yes)
}

// isKnown tells whether literals of a type that aren't the same are known to differ, or to be equal.
func isKnown(kind string) bool {
	switch kind {
	case XString, XInt, XBool, XLang:
		return true
	}
	return false
}

// Effective: as a truth.
func Effective(t Term) value.Truth {
	l, ok := asLiteral(t)
	if !ok {
		return value.Wrong
	}
	switch l.Type {
	case XBool:
		yes, code := AsBool(l)
		return truthOf(yes, code)
	case XInt:
		n, code := AsInt(l)
		return truthOf(n != 0, code)
	case XString, XLang:
		return value.Of(l.Text != "")
	}
	return value.Wrong
}
