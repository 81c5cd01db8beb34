package term_test

import (
	"math/rand"
	"slices"
	"strings"
	"testing"

	"beck/api"
	"beck/term"
	"beck/value"
)

// rising are terms, good ones and others, in the chapter's order.
func rising() []term.Term {
	return []term.Term{
		term.Blank{},
		term.Blank{Label: "0"},
		term.Blank{Label: "1"},
		term.Blank{Label: "10"},
		term.Blank{Label: "2"},
		term.Blank{Label: "A"},
		term.Blank{Label: "a"},
		term.Blank{Label: "a-"},
		term.Blank{Label: "a-b"},
		term.Blank{Label: "a_"},
		term.Blank{Label: "aa"},
		term.Blank{Label: "b"},
		term.IRI{},
		term.IRI{Text: "A:"},
		term.IRI{Text: "a"},
		term.IRI{Text: "a:"},
		term.IRI{Text: "a:a"},
		term.IRI{Text: "b:"},
		term.IRI{Text: "u:\x7f"},
		term.IRI{Text: "u:\u0080"},
		term.IRI{Text: "u:é"},
		term.IRI{Text: "u:\uffff"},
		term.IRI{Text: "u:\U00010000"}, // by UTF-16 it would be ahead of the one above
		term.IRI{Text: "u:\xff"},
		term.Literal{},
		literal("", "", "en"),
		literal("", term.XLang, "de"),
		literal("", term.XInt, ""),
		literal("", "u:t", ""),
		literal("-1", term.XInt, ""),
		literal("0", term.XBool, ""),
		literal("0", term.XInt, ""),
		literal("00", term.XInt, ""),
		literal("10", term.XInt, ""),
		literal("9", term.XInt, ""), // by texts, not by integers
		literal("A", term.XString, ""),
		literal("a", "", ""),
		literal("a", "a", ""),
		literal("a", term.XLang, ""),
		literal("a", term.XLang, "DE"),
		literal("a", term.XLang, "de"),
		literal("a", term.XLang, "de-a"),
		literal("a", term.XLang, "en"),
		literal("a", term.XBool, ""),
		literal("a", term.XInt, ""),
		literal("a", term.XString, ""),
		literal("a", "u:t", ""),
		literal("a", "u:t", "en"),
		literal("a", "u:ta", ""),
		literal("a\x00", "", ""),
		literal("a\x00", "u:t", ""),
		literal("aa", "", ""),
		literal("true", term.XBool, ""),
		literal("é", term.XString, ""),
	}
}

// sign is -1, 0 or 1, as a is ahead of b, at it, or behind it.
func sign(a, b int) int {
	switch {
	case a < b:
		return -1
	case a > b:
		return 1
	}
	return 0
}

func TestOrder(t *testing.T) {
	l := rising()
	for i, a := range l {
		for k, b := range l {
			if got := term.Order(a, b); got != sign(i, k) {
				t.Errorf("P3.2: Order(%q, %q): %d", a, b, got)
			}
			if got := term.Same(a, b); got != (i == k) {
				t.Errorf("P3.1: Same(%q, %q): %v", a, b, got)
			}
		}
	}
}

// TestOrderOfStrangers: what is no term is behind all terms, and alike with its like, but the same as nothing.
func TestOrderOfStrangers(t *testing.T) {
	for i, x := range strangers() {
		for _, a := range rising() {
			if term.Order(a, x) != -1 || term.Order(x, a) != 1 {
				t.Errorf("stranger %d isn't behind %q", i, a)
			}
			if term.Same(a, x) || term.Same(x, a) || term.Equal(a, x) != value.False || term.Equal(x, a) != value.False {
				t.Errorf("stranger %d is the same as %q, or equal", i, a)
			}
		}
		for k, y := range strangers() {
			if term.Order(x, y) != 0 || term.Same(x, y) || term.Equal(x, y) != value.False {
				t.Errorf("strangers %d and %d: %d, %v, %d", i, k, term.Order(x, y), term.Same(x, y), term.Equal(x, y))
			}
		}
		if term.Effective(x) != value.Wrong {
			t.Errorf("Effective of stranger %d: %d", i, term.Effective(x))
		}
		if n, e := term.AsInt(x); n != 0 || e != api.ErrType {
			t.Errorf("AsInt of stranger %d: %d, %d", i, n, e)
		}
		if b, e := term.AsBool(x); b || e != api.ErrType {
			t.Errorf("AsBool of stranger %d: %v, %d", i, b, e)
		}
	}
}

// someTerm makes a term of few signs, so that many are nearly the same.
func someTerm(random *rand.Rand) term.Term {
	text := func() string {
		pieces := []string{"", "a", "b", "ab", "a:", "\x00", "é", "\xff"}
		return pieces[random.Intn(len(pieces))] + pieces[random.Intn(len(pieces))]
	}
	switch random.Intn(4) {
	case 0:
		return term.Blank{Label: text()}
	case 1:
		return term.IRI{Text: text()}
	case 2:
		return literal(text(), term.XLang, text())
	}
	return literal(text(), text(), text())
}

// byWords tells the order of two terms as the chapter's words have it, of kinds and texts one by one.
func byWords(a, b term.Term) int {
	if c := sign(term.Kind(a), term.Kind(b)); c != 0 {
		return c
	}
	switch x := a.(type) {
	case term.Blank:
		return strings.Compare(x.Label, b.(term.Blank).Label)
	case term.IRI:
		return strings.Compare(x.Text, b.(term.IRI).Text)
	}
	x, y := a.(term.Literal), b.(term.Literal)
	if c := strings.Compare(x.Text, y.Text); c != 0 {
		return c
	}
	if c := strings.Compare(x.Type, y.Type); c != 0 {
		return c
	}
	return strings.Compare(x.Lang, y.Lang)
}

// TestWholeOrder: just those that are the same are alike, and what is ahead of what is ahead is ahead (P3.2).
func TestWholeOrder(t *testing.T) {
	random := rand.New(rand.NewSource(3))
	l := rising()
	for range 150 {
		l = append(l, someTerm(random))
	}
	order := make([][]int, len(l))
	for i, a := range l {
		order[i] = make([]int, len(l))
		for k, b := range l {
			c := term.Order(a, b)
			order[i][k] = c
			if c != byWords(a, b) || c != -term.Order(b, a) {
				t.Fatalf("P3.2: Order(%q, %q): %d, the other way round %d", a, b, c, term.Order(b, a))
			}
			if same := term.Same(a, b); same != (c == 0) || same != (a == b) {
				t.Fatalf("P3.2: Order(%q, %q): %d, but Same: %v", a, b, c, same)
			}
		}
	}
	for i := range l {
		for k := range l {
			for m := range l {
				if order[i][k] <= 0 && order[k][m] <= 0 && order[i][m] > 0 {
					t.Fatalf("P3.2: %q, %q, %q", l[i], l[k], l[m])
				}
			}
		}
	}
	slices.SortFunc(l, term.Order)
	for i := range len(l) - 1 {
		if byWords(l[i], l[i+1]) > 0 {
			t.Fatalf("P3.2: sorted, %q is ahead of %q", l[i], l[i+1])
		}
	}
}

func TestAsInt(t *testing.T) {
	for _, c := range []struct {
		t    term.Term
		want int64
		code api.Errno
	}{
		{literal("12", term.XInt, ""), 12, api.OK},
		{literal("+012", term.XInt, ""), 12, api.OK},
		{literal("-0", term.XInt, ""), 0, api.OK},
		{literal("5", term.XInt, "en"), 5, api.OK}, // by its fields, good or not
		{literal("-9223372036854775808", term.XInt, ""), -1 << 63, api.OK},
		{literal("9223372036854775807", term.XInt, ""), 1<<63 - 1, api.OK},
		{literal("9223372036854775808", term.XInt, ""), 0, api.ErrOver},
		{literal("-9223372036854775809", term.XInt, ""), 0, api.ErrOver},
		{literal(strings.Repeat("9", 5000), term.XInt, ""), 0, api.ErrOver},
		{literal("", term.XInt, ""), 0, api.ErrTerm},
		{literal("x", term.XInt, ""), 0, api.ErrTerm},
		{literal(" 1", term.XInt, ""), 0, api.ErrTerm},
		{literal("1.0", term.XInt, ""), 0, api.ErrTerm},
		{literal("99999999999999999999x", term.XInt, ""), 0, api.ErrTerm},
		{literal("12", term.XString, ""), 0, api.ErrType},
		{literal("1", term.XBool, ""), 0, api.ErrType},
		{literal("1", term.XLang, "en"), 0, api.ErrType},
		{literal("1", "http://www.w3.org/2001/XMLSchema#int", ""), 0, api.ErrType},
		{literal("1", "", ""), 0, api.ErrType},
		{term.IRI{Text: "1"}, 0, api.ErrType},
		{term.IRI{Text: term.XInt}, 0, api.ErrType},
		{term.Blank{Label: "1"}, 0, api.ErrType},
	} {
		if got, e := term.AsInt(c.t); got != c.want || e != c.code {
			t.Errorf("AsInt(%.60q): %d, %d", c.t, got, e)
		}
	}
}

func TestAsBool(t *testing.T) {
	for _, c := range []struct {
		t    term.Term
		want bool
		code api.Errno
	}{
		{literal("true", term.XBool, ""), true, api.OK},
		{literal("1", term.XBool, ""), true, api.OK},
		{literal("false", term.XBool, ""), false, api.OK},
		{literal("0", term.XBool, ""), false, api.OK},
		{literal("1", term.XBool, "en"), true, api.OK},
		{literal("", term.XBool, ""), false, api.ErrTerm},
		{literal("TRUE", term.XBool, ""), false, api.ErrTerm},
		{literal("True", term.XBool, ""), false, api.ErrTerm},
		{literal("t", term.XBool, ""), false, api.ErrTerm},
		{literal("+1", term.XBool, ""), false, api.ErrTerm},
		{literal("01", term.XBool, ""), false, api.ErrTerm},
		{literal("00", term.XBool, ""), false, api.ErrTerm},
		{literal("true ", term.XBool, ""), false, api.ErrTerm},
		{literal("true", term.XString, ""), false, api.ErrType},
		{literal("1", term.XInt, ""), false, api.ErrType},
		{literal("true", term.XLang, "en"), false, api.ErrType},
		{literal("true", "", ""), false, api.ErrType},
		{term.IRI{Text: "true"}, false, api.ErrType},
		{term.Blank{Label: "true"}, false, api.ErrType},
	} {
		if got, e := term.AsBool(c.t); got != c.want || e != c.code {
			t.Errorf("AsBool(%q): %v, %d", c.t, got, e)
		}
	}
}

func TestEqual(t *testing.T) {
	for _, c := range []struct {
		a, b term.Term
		want value.Truth
	}{
		{literal("1", term.XInt, ""), literal("01", term.XInt, ""), value.True}, // the chapter's example
		{literal("-0", term.XInt, ""), literal("+00", term.XInt, ""), value.True},
		{literal("1", term.XInt, ""), literal("1", term.XInt, "en"), value.True},
		{literal("1", term.XInt, ""), literal("2", term.XInt, ""), value.False},
		{literal("1", term.XInt, ""), literal("-1", term.XInt, ""), value.False},
		// What has no value comes out as 0: neither that, nor that another one isn't 0, may count.
		{literal("x", term.XInt, ""), literal("0", term.XInt, ""), value.Wrong},
		{literal("x", term.XInt, ""), literal("1", term.XInt, ""), value.Wrong},
		{literal("x", term.XInt, ""), literal("y", term.XInt, ""), value.Wrong},
		{literal("x", term.XInt, ""), literal("x", term.XInt, ""), value.True}, // they are the same
		{literal("9223372036854775808", term.XInt, ""), literal("+9223372036854775808", term.XInt, ""), value.Wrong},
		{literal("9223372036854775808", term.XInt, ""), literal("1", term.XInt, ""), value.Wrong},
		{literal("9223372036854775808", term.XInt, ""), literal("9223372036854775808", term.XInt, ""), value.True},
		{literal("1", term.XBool, ""), literal("true", term.XBool, ""), value.True},
		{literal("0", term.XBool, ""), literal("false", term.XBool, ""), value.True},
		{literal("0", term.XBool, ""), literal("true", term.XBool, ""), value.False},
		{literal("no", term.XBool, ""), literal("false", term.XBool, ""), value.Wrong},
		{literal("no", term.XBool, ""), literal("true", term.XBool, ""), value.Wrong},
		{literal("no", term.XBool, ""), literal("yes", term.XBool, ""), value.Wrong},
		{literal("no", term.XBool, ""), literal("no", term.XBool, ""), value.True},
		{literal("1", term.XInt, ""), literal("1", term.XBool, ""), value.False},
		{literal("x", term.XInt, ""), literal("x", term.XBool, ""), value.False},
		{literal("x", term.XInt, ""), literal("x", term.XString, ""), value.False},
		{literal("1", term.XInt, ""), literal("1", term.XLang, "en"), value.False},
		{literal("a", term.XString, ""), literal("a", term.XString, ""), value.True},
		{literal("a", term.XString, ""), literal("b", term.XString, ""), value.False},
		{literal("a", term.XString, ""), literal("a", term.XLang, "en"), value.False},
		{literal("a", term.XLang, "en"), literal("a", term.XLang, "en"), value.True},
		{literal("a", term.XLang, "en"), literal("a", term.XLang, "EN"), value.False},
		{literal("a", term.XLang, "en"), literal("b", term.XLang, "en"), value.False},
		{literal("a", "u:t", ""), literal("a", "u:t", ""), value.True},
		{literal("a", "u:t", ""), literal("b", "u:t", ""), value.Wrong},
		{literal("a", "u:t", ""), literal("a", "u:s", ""), value.Wrong},
		{literal("a", "u:t", ""), literal("a", term.XString, ""), value.Wrong},
		{literal("1", "u:t", ""), literal("1", term.XInt, ""), value.Wrong},
		{literal("1", "u:t", ""), literal("x", term.XInt, ""), value.Wrong},
		{literal("1", "u:t", ""), literal("1", term.XBool, ""), value.Wrong},
		{literal("a", "u:t", ""), literal("a", term.XLang, "en"), value.Wrong},
		{literal("a", "", ""), literal("b", "", ""), value.Wrong},
		{literal("a", "", ""), literal("a", "", ""), value.True},
		{term.IRI{Text: "u:a"}, term.IRI{Text: "u:a"}, value.True},
		{term.IRI{Text: "u:a"}, term.IRI{Text: "u:b"}, value.False},
		{term.IRI{Text: "u:a"}, literal("u:a", "u:t", ""), value.False},
		{term.IRI{Text: "u:a"}, literal("x", term.XInt, ""), value.False},
		{term.IRI{Text: "a"}, term.Blank{Label: "a"}, value.False},
		{term.Blank{Label: "a"}, term.Blank{Label: "a"}, value.True},
		{term.Blank{Label: "a"}, term.Blank{Label: "b"}, value.False},
		{term.Blank{Label: "a"}, literal("a", "u:t", ""), value.False},
	} {
		if got := term.Equal(c.a, c.b); got != c.want {
			t.Errorf("Equal(%q, %q): %d", c.a, c.b, got)
		}
		if got := term.Equal(c.b, c.a); got != c.want {
			t.Errorf("Equal(%q, %q): %d", c.b, c.a, got)
		}
	}
}

func TestEffective(t *testing.T) {
	for _, c := range []struct {
		t    term.Term
		want value.Truth
	}{
		{literal("true", term.XBool, ""), value.True},
		{literal("1", term.XBool, ""), value.True},
		{literal("false", term.XBool, ""), value.False},
		{literal("0", term.XBool, ""), value.False},
		{literal("no", term.XBool, ""), value.Wrong},
		{literal("", term.XBool, ""), value.Wrong},
		{literal("1", term.XInt, ""), value.True},
		{literal("-1", term.XInt, ""), value.True},
		{literal("0", term.XInt, ""), value.False},
		{literal("-00", term.XInt, ""), value.False},
		{literal("x", term.XInt, ""), value.Wrong},
		{literal("", term.XInt, ""), value.Wrong},
		{literal("9223372036854775808", term.XInt, ""), value.Wrong},
		{literal("", term.XString, ""), value.False},
		{literal("0", term.XString, ""), value.True},
		{literal("false", term.XString, ""), value.True},
		{literal("", term.XLang, "en"), value.False},
		{literal("a", term.XLang, "en"), value.True},
		{literal("", "u:t", ""), value.Wrong},
		{literal("a", "u:t", ""), value.Wrong},
		{term.Literal{}, value.Wrong},
		{term.IRI{Text: "u:a"}, value.Wrong},
		{term.IRI{}, value.Wrong},
		{term.Blank{Label: "true"}, value.Wrong},
	} {
		if got := term.Effective(c.t); got != c.want {
			t.Errorf("Effective(%q): %d", c.t, got)
		}
	}
}
