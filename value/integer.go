package value

import (
	"cmp"
	"math"
	"strconv"

	"beck/api"
)

// Parse: an integer's text.
func Parse(s string) (int64, api.Errno) {
	if !isNumber(s) {
		return 0, api.ErrForm
	}
	n, err := strconv.ParseInt(s, 10, 64)
	if err != nil {
		return 0, api.ErrOver
	}
	return n, api.OK
}

// isNumber tells whether a text is an integer's, be it too great or not. (strconv doesn't look at what stands behind the digits that are too many.)
func isNumber(s string) bool {
	if s != "" && (s[0] == '+' || s[0] == '-') {
		s = s[1:]
	}
	for _, r := range s {
		if r < '0' || r > '9' {
			return false
		}
	}
	return s != ""
}

// Text: an integer's.
func Text(n int64) string { return strconv.FormatInt(n, 10) }

// Add: the sum of all.
func Add(l ...int64) (int64, api.Errno) {
	return fold(l, 0, func(a, b int64) (int64, bool) {
		c := a + b
		return c, (c > a) == (b > 0)
	})
}

// Sub: a difference.
func Sub(a, b int64) (int64, api.Errno) {
	c := a - b
	if (c < a) != (b > 0) {
		return 0, api.ErrOver
	}
	return c, api.OK
}

// Mul: the product of all.
func Mul(l ...int64) (int64, api.Errno) {
	return fold(l, 1, func(a, b int64) (int64, bool) {
		c := a * b
		if b == -1 {
			// The quotient below would wrap round as the product did.
			return c, a != math.MinInt64
		}
		return c, b == 0 || c/b == a
	})
}

// fold makes one integer of many, one after the other; step tells whether what comes out is one.
func fold(l []int64, first int64, step func(a, b int64) (int64, bool)) (int64, api.Errno) {
	all, ok := first, true
	for _, n := range l {
		if all, ok = step(all, n); !ok {
			return 0, api.ErrOver
		}
	}
	return all, api.OK
}

// Div: a quotient, towards 0.
func Div(a, b int64) (int64, api.Errno) {
	switch {
	case b == 0:
		return 0, api.ErrRange
	case a == math.MinInt64 && b == -1:
		return 0, api.ErrOver
	}
	return a / b, api.OK
}

// Floor: a quotient, downwards.
func Floor(a, b int64) (int64, api.Errno) {
	c, code := Div(a, b)
	if code == api.OK && a%b != 0 && (a < 0) != (b < 0) {
		c--
	}
	return c, code
}

// Order: -1, 0, 1.
func Order(a, b int64) int { return cmp.Compare(a, b) }
