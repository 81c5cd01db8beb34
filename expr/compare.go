package expr

import (
	"strings"

	"beck/api"
	"beck/term"
	"beck/value"
)

// compare answers whether one value stands to another one as a comparison says.
func compare(op string, a, b term.Term) (term.Term, api.Errno) {
	c, ordered := order(a, b)
	if !ordered {
		return nil, api.ErrType
	}
	return term.Bool(holds(op, c)), api.OK
}

// holds tells whether a comparison is so of values that are in an order: -1, 0 or 1.
func holds(op string, order int) bool {
	switch op {
	case "<":
		return order < 0
	case "<=":
		return order <= 0
	case ">":
		return order > 0
	}
	return order >= 0
}

// order tells in which order two values are, -1, 0 or 1, or that they are in none.
func order(a, b term.Term) (int, bool) {
	x, xIsLiteral := a.(term.Literal)
	y, yIsLiteral := b.(term.Literal)
	if !xIsLiteral || !yIsLiteral || x.Type != y.Type {
		return 0, false
	}
	switch x.Type {
	case term.XInt:
		return orderBy(term.AsInt, x, y)
	case term.XBool:
		return orderBy(truthNumber, x, y)
	case term.XString:
		return strings.Compare(x.Text, y.Text), true
	}
	return 0, false
}

// orderBy holds the numbers of two literals against each other, if both have one.
func orderBy(number func(term.Term) (int64, api.Errno), a, b term.Literal) (int, bool) {
	x, codeOfX := number(a)
	y, codeOfY := number(b)
	if codeOfX != api.OK || codeOfY != api.OK {
		return 0, false
	}
	return value.Order(x, y), true
}

// truthNumber answers 0 of what is false, 1 of what is true, as false is ahead of true.
func truthNumber(t term.Term) (int64, api.Errno) {
	yes, code := term.AsBool(t)
	return int64(value.Of(yes)), code
}
