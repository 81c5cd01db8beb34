package expr

import (
	"beck/api"
	"beck/term"
	"beck/value"
)

// calculate answers what comes of the integers of values.
func calculate(op string, parts []term.Term) (term.Term, api.Errno) {
	l, code := integers(parts)
	if code != api.OK {
		return nil, code
	}
	n, code := result(op, l)
	if code != api.OK {
		return nil, code
	}
	return term.Int(n), api.OK
}

// integers answers those of values, or the error of the first one that has none.
func integers(parts []term.Term) ([]int64, api.Errno) {
	var l []int64
	for _, part := range parts {
		n, code := term.AsInt(part)
		if code != api.OK {
			return nil, code
		}
		l = append(l, n)
	}
	return l, api.OK
}

func result(op string, l []int64) (int64, api.Errno) {
	switch op {
	case "+":
		return value.Add(l...)
	case "-":
		return value.Sub(l[0], l[1])
	case "*":
		return value.Mul(l...)
	case "/":
		return value.Div(l[0], l[1])
	}
	return value.Sub(0, l[0])
}
