package expr_test

import (
	"strconv"
	"strings"
	"testing"

	"beck/api"
	"beck/expr"
	"beck/nt"
	"beck/syntax"
	"beck/term"
	"beck/value"
)

const (
	least    = "-9223372036854775808"
	greatest = "9223372036854775807"
)

func literal(text, kind string) term.Term { return term.Literal{Text: text, Type: kind} }

// parsed answers the tree of an expression's text.
func parsed(t *testing.T, s string) syntax.Expr {
	t.Helper()
	e, place, code := syntax.ParseExpr(s)
	if code != api.OK {
		t.Fatalf("%s: %d at %d", s, code, place)
	}
	return e
}

// known answers an env of terms of all kinds; of ?q, ?r there is none.
func known() expr.Env {
	return expr.Of(map[string]term.Term{
		"n":     term.Int(7),
		"plus":  literal("+07", term.XInt),
		"zero":  literal("-0", term.XInt),
		"least": literal(least, term.XInt),
		"most":  literal(greatest, term.XInt),
		"bad":   literal("x", term.XInt),
		"worse": literal("1.0", term.XInt),
		"over":  literal("9223372036854775808", term.XInt),
		"yes":   term.Bool(true),
		"one":   literal("1", term.XBool),
		"no":    literal("0", term.XBool),
		"maybe": literal("maybe", term.XBool),
		"s":     term.Plain("ab"),
		"empty": term.Plain(""),
		"en":    term.Literal{Text: "ab", Type: term.XLang, Lang: "en"},
		"mute":  term.Literal{Type: term.XLang, Lang: "en"},
		"odd":   literal("ab", "u:t"),
		"odd7":  literal("7", "u:t"),
		"i":     term.IRI{Text: "u:i"},
		"b":     term.Blank{Label: "b"},
	})
}

// told tells an answer in short: an error as its number, an integer and a truth by their texts, another term by chapter 4's.
func told(x term.Term, code api.Errno) string {
	if code != api.OK {
		if x != nil {
			return "a term beside an error"
		}
		return "err " + strconv.Itoa(int(code))
	}
	l, ok := x.(term.Literal)
	switch {
	case x == nil:
		return "nil"
	case ok && l.Lang == "" && (l.Type == term.XInt || l.Type == term.XBool):
		return l.Text
	}
	return nt.Text(x)
}

func kindOf(x term.Term) string {
	l, _ := x.(term.Literal)
	return l.Type
}

// worth holds expressions' values against what is wanted, written as told does, with " : " between.
func worth(t *testing.T, lines ...string) {
	t.Helper()
	for _, line := range lines {
		s, want, _ := strings.Cut(line, " : ")
		got, code := expr.Eval(parsed(t, s), known())
		if told(got, code) != want {
			t.Errorf("P15.1: %s: %s, want %s", s, told(got, code), want)
		}
	}
}

// TestExample is the chapter's.
func TestExample(t *testing.T) {
	worth(t, "1 / 0 || TRUE : true")
	if got := expr.Truth(parsed(t, "1 / 0 || TRUE"), nil); got != value.True {
		t.Errorf("P15.1: Truth of 1 / 0 || TRUE: %d", got)
	}
}

func TestVarsAndTerms(t *testing.T) {
	worth(t,
		"?n : 7", "?plus : +07", "?zero : -0", "?bad : x", "?over : 9223372036854775808", "?maybe : maybe", "?one : 1",
		`?s : "ab"`, `?empty : ""`, `?en : "ab"@en`, `?odd : "ab"^^<u:t>`, "?i : <u:i>", "?b : _:b",
		"?q : err 11", "?N : err 11", "((?n)) : 7",
		"007 : 007", "<u:a> : <u:a>", "_:x : _:x", `"a" : "a"`, `"x"^^<`+term.XInt+`> : x`, "TRUE : true", "FALSE : false",
		"BOUND(?n) : true", "BOUND(?bad) : true", "BOUND(?empty) : true", "BOUND(?no) : true", "BOUND(?q) : false", "BOUND(?N) : false",
	)
	for _, s := range []string{"BOUND(?n)", "BOUND(?q)", "!?n", "?n < 8", "?n = 7", "?n || ?n"} {
		if got, _ := expr.Eval(parsed(t, s), known()); kindOf(got) != term.XBool {
			t.Errorf("P15.1: %s: %v, want a truth", s, got)
		}
	}
	for _, s := range []string{"?n + 1", "?n - 1", "?n * 1", "?n / 1", "-?n"} {
		if got, _ := expr.Eval(parsed(t, s), known()); kindOf(got) != term.XInt {
			t.Errorf("P15.1: %s: %v, want an integer", s, got)
		}
	}
}

func TestOrAnd(t *testing.T) {
	parts := []string{"?one", "?no", "?i", "?q", "?bad", "(1 / 0)", "?s", "?empty", "?n", "?zero", "?en", "?mute", "?odd", "?maybe", "?b", "?over", "(!?q)"}
	truths := []value.Truth{1, 0, 2, 2, 2, 2, 1, 0, 1, 0, 1, 0, 2, 2, 2, 2, 2}
	name := []string{"false", "true", "err 10"}
	for i, a := range parts {
		for k, b := range parts {
			or, and := name[2], name[2]
			switch {
			case truths[i] == value.True || truths[k] == value.True:
				or = name[1]
			case truths[i] == value.False && truths[k] == value.False:
				or = name[0]
			}
			switch {
			case truths[i] == value.False || truths[k] == value.False:
				and = name[0]
			case truths[i] == value.True && truths[k] == value.True:
				and = name[1]
			}
			worth(t, a+" || "+b+" : "+or, a+" && "+b+" : "+and)
		}
		worth(t, a+" || ?q || TRUE : true", "FALSE && "+a+" && ?q : false", a+" && FALSE || TRUE && TRUE : true")
	}
}

func TestNot(t *testing.T) {
	worth(t,
		"!TRUE : false", "!FALSE : true", "!?one : false", "!?no : true", "!?n : false", "!?zero : true", "!0 : true",
		"!?s : false", "!?empty : true", "!?en : false", "!?mute : true", "!!?s : true", "!(?n > 8) : true",
		"!?i : err 10", "!?b : err 10", "!?odd : err 10", "!?bad : err 10", "!?over : err 10", "!?maybe : err 10",
		"!?q : err 11", "!(1 / 0) : err 2", "!(?bad + 1) : err 3", "!(?q || FALSE) : err 10", "!(?q || TRUE) : false",
	)
}

func TestEqual(t *testing.T) {
	for pair, want := range map[string]value.Truth{
		"?n ?plus": 1, "?n 007": 1, "?n 8": 0, "?zero 0": 1, "?least ?most": 0, "?bad ?bad": 1, "?over ?over": 1,
		"?bad 1": 2, "1 ?bad": 2, "?bad ?over": 2, "?over 1": 2,
		"?yes ?one": 1, "?yes ?no": 0, "?no FALSE": 1, "?maybe ?maybe": 1, "?maybe ?yes": 2, "?no ?maybe": 2,
		"?s \"ab\"": 1, "?s ?empty": 0, "?s ?en": 0, "?en ?en": 1, "?en ?mute": 0,
		"?n ?yes": 0, "?n ?s": 0, "?n \"7\"": 0, "?one 1": 0, "?bad ?s": 0, "?maybe ?bad": 0,
		"?odd ?odd": 1, "?odd ?odd7": 2, "?odd7 7": 2, "?n ?odd7": 2, "?s ?odd": 2, "?odd ?bad": 2,
		"?i ?i": 1, "?i <u:i>": 1, "?i <u:j>": 0, "?i ?b": 0, "?i ?odd": 0, "?b ?b": 1, "?b _:c": 0, "?b ?bad": 0, "?i ?s": 0,
	} {
		a, b, _ := strings.Cut(pair, " ")
		is, isNot := []string{"false", "true", "err 10"}[want], []string{"true", "false", "err 10"}[want]
		worth(t, a+" = "+b+" : "+is, b+" = "+a+" : "+is, a+" != "+b+" : "+isNot, b+" != "+a+" : "+isNot)
	}
	for _, op := range []string{"=", "!="} {
		worth(t, "?q "+op+" ?q : err 11", "?q "+op+" 1 / 0 : err 11", "1 / 0 "+op+" ?q : err 2", "?i "+op+" ?q : err 11", "?odd "+op+" ?bad + 1 : err 3", "?odd "+op+" ?s + 1 : err 10")
	}
}

// TestCompare: all pairs of rows of values, rising, of which just those of one row may be held against each other.
func TestCompare(t *testing.T) {
	rows := [][][]string{
		{{"?least"}, {"(- 10)"}, {"(-9)"}, {"?zero", "0", "000"}, {"1"}, {"2"}, {"?n", "?plus"}, {"10"}, {"?most"}},
		{{"?no", "FALSE"}, {"?yes", "?one", "TRUE"}},
		{{"?empty"}, {`"10"`}, {`"9"`}, {`"A"`}, {`"a"`}, {"?s"}, {`"b"`}, {`"true"`}, {`"é"`}, {`"` + "\uffff" + `"`}, {`"` + "\U00010000" + `"`}},
		{{"?bad"}}, {{"?worse"}}, {{"?over"}}, {{"?maybe"}}, {{"?en"}}, {{"?mute"}}, {{"?odd"}}, {{"?odd7"}}, {{"?i"}}, {{"<u:j>"}}, {{"?b"}},
	}
	for i, left := range rows {
		for k, right := range rows {
			for m, as := range left {
				for n, bs := range right {
					for _, a := range as {
						for _, b := range bs {
							comparisons(t, a, b, i == k && i < 3, m, n)
						}
					}
				}
			}
		}
	}
	for _, op := range []string{"<", "<=", ">", ">="} {
		worth(t, "?q "+op+" 1 / 0 : err 11", "1 / 0 "+op+" ?q : err 2", "?i "+op+" ?q : err 11", "?bad + 1 "+op+" ?i : err 3", "?i "+op+" ?bad + 1 : err 3")
	}
}

func comparisons(t *testing.T, a, b string, ordered bool, m, n int) {
	t.Helper()
	for op, yes := range map[string]bool{"<": m < n, "<=": m <= n, ">": m > n, ">=": m >= n} {
		want := strconv.FormatBool(yes)
		if !ordered {
			want = "err 10"
		}
		worth(t, a+" "+op+" "+b+" : "+want)
	}
}

func TestCalculate(t *testing.T) {
	worth(t,
		"?n + 1 : 8", "?plus + 0 : 7", "?zero + 0 : 0", "?n + ?n + ?n : 21", "1 + ?n * 2 : 15", "(1 + ?n) * 2 : 16",
		"?n - 1 : 6", "1 - ?n : -6", "10 - 2 - 3 : 5", "?n - -1 : 8", "007 - 8 : -1",
		"?n * 0 : 0", "?n * ?plus : 49", "-?n * ?n : -49", "- ?n : -7", "--?n : 7", "-?zero : 0", "- 007 : -7",
		"?n / 2 : 3", "-?n / 2 : -3", "?n / -2 : -3", "-?n / -2 : 3", "6 / 3 : 2", "1 / 2 : 0", "100 / 10 / 5 : 2", "0 / ?n : 0",
		"?most + 0 : "+greatest, "?least - 0 : "+least, "?least * 1 : "+least, "?most / -1 : -"+greatest, "-?most : -"+greatest, "-?most - 1 : "+least, "?least / 1 : "+least,
		"?least + ?most : -1", "?most + 1 : err 9", "1 + ?most : err 9", "?least + -1 : err 9", "?least - 1 : err 9", "0 - ?least : err 9", "-?least : err 9", "?most * 2 : err 9", "?least * -1 : err 9", "?least / -1 : err 9",
		"?most + 1 - 1 : err 9", "?most - 1 + 1 : "+greatest, "?most * 2 / 2 : err 9",
		"?n / 0 : err 2", "0 / ?zero : err 2", "?n / (7 - ?n) : err 2", "?least / 0 : err 2",
	)
}

// TestNoIntegers: of a part that has no integer the error is AsInt's of the first such one; but the parts' own errors come first.
func TestNoIntegers(t *testing.T) {
	codes := map[string]string{
		"?bad": "3", "?worse": "3", "?over": "9", "?s": "10", "?empty": "10", `"7"`: "10", "?yes": "10", "?one": "10", "?en": "10", "?odd7": "10", "?i": "10", "?b": "10",
		`"9223372036854775808"^^<` + term.XInt + `>`: "9", `""^^<` + term.XInt + `>`: "3",
	}
	for a, code := range codes {
		worth(t, "-"+a+" : err "+code, "-"+a+" + 1 : err "+code)
		for _, op := range []string{"+", "-", "*", "/"} {
			worth(t, a+" "+op+" 1 : err "+code, "1 "+op+" "+a+" : err "+code, a+" "+op+" 0 : err "+code, a+" "+op+" ?q : err 11", "?q "+op+" "+a+" : err 11", a+" "+op+" (1 / 0) : err 2", "1 / 0 "+op+" "+a+" : err 2")
			for b := range codes {
				worth(t, a+" "+op+" "+b+" : err "+code)
			}
		}
	}
}

func TestTruth(t *testing.T) {
	for s, want := range map[string]value.Truth{
		"?n": 1, "?zero": 0, "?n - 7": 0, "?bad": 2, "?over": 2, "?yes": 1, "?one": 1, "?no": 0, "?maybe": 2, "?s": 1, "?empty": 0, "?en": 1, "?mute": 0, "?odd": 2, "?i": 2, "?b": 2,
		"?q": 2, "?q + 1": 2, "1 / 0": 2, "!?yes": 0, "!?q": 2, "BOUND(?q)": 0, "BOUND(?i)": 1, "?q || ?n": 1, "?q && ?n": 2, "?q && ?no": 0, "?n < 8": 1, "?i < 8": 2, "?odd = ?odd7": 2, "?odd != ?odd": 0,
	} {
		if got := expr.Truth(parsed(t, s), known()); got != want {
			t.Errorf("P15.1: Truth of %s: %d, want %d", s, got, want)
		}
	}
}

func TestConstant(t *testing.T) {
	for s, want := range map[string]bool{
		"1": true, "<u:a>": true, "_:b": true, `"?x"`: true, "TRUE": true, "1 / 0 = 2": true, "!(1 < 2) || -3 > 4": true, "(1)": true,
		"?x": false, "BOUND(?x)": false, "1 + BOUND(?x)": false, "!?x": false, "-?x": false, "TRUE || ?x": false, "?x && FALSE": false, "1 + 2 * (3 - -?x)": false, "?x = ?x": false,
	} {
		if got := expr.Constant(parsed(t, s)); got != want {
			t.Errorf("P15.1: Constant of %s: %v", s, got)
		}
	}
}

// TestDeep: as deep as may be, in either direction.
func TestDeep(t *testing.T) {
	worth(t,
		strings.Repeat("!", api.MaxDeep-1)+"TRUE : "+strconv.FormatBool((api.MaxDeep-1)%2 == 0),
		strings.Repeat("1 + ", api.MaxDeep-1)+"1 : "+strconv.Itoa(api.MaxDeep),
		strings.Repeat("1 - (", api.MaxDeep-1)+"1"+strings.Repeat(")", api.MaxDeep-1)+" : "+strconv.Itoa(api.MaxDeep%2),
	)
}

// stranger is of a type that has the method of terms, but is none.
type stranger struct{}

func (stranger) Good() bool { return true }

// TestNoTerms: what isn't an expression that may be, or stands for what is no term, has an answer all the same.
func TestNoTerms(t *testing.T) {
	for _, s := range []string{"?x", "-?x", "!?x", "?x = 1", "?x < ?x", "?x + 1"} {
		for _, env := range []expr.Env{nil, expr.Of(nil), expr.Of(map[string]term.Term{}), expr.Of(map[string]term.Term{"x": nil}), func(string) (term.Term, bool) { return nil, true }, func(string) (term.Term, bool) { return term.Int(1), false }} {
			if got, code := expr.Eval(parsed(t, s), env); told(got, code) != "err 11" {
				t.Errorf("P15.1: %s of what stands for nothing: %s", s, told(got, code))
			}
			if got, code := expr.Eval(parsed(t, "BOUND(?x)"), env); told(got, code) != "false" {
				t.Errorf("P15.1: BOUND of what stands for nothing: %s", told(got, code))
			}
		}
	}
	env := expr.Of(map[string]term.Term{"x": stranger{}, "n": &term.Literal{Text: "1", Type: term.XInt}})
	for s, want := range map[string]string{"?x = ?x": "false", "?x != ?x": "true", "?x < ?x": "err 10", "?n < 2": "err 10", "?n + 1": "err 10", "-?x": "err 10", "!?n": "err 10", "?x || TRUE": "true", "BOUND(?x)": "true"} {
		if got, code := expr.Eval(parsed(t, s), env); told(got, code) != want {
			t.Errorf("P15.1: %s of strangers: %s, want %s", s, told(got, code), want)
		}
	}
	one := syntax.Expr{Node: syntax.Node{Term: term.Int(1)}}
	for _, op := range []string{"", "=", "!=", "<", "<=", ">", ">=", "+", "-", "*", "/", "neg", "!", "?", "bound"} {
		for _, parts := range [][]syntax.Expr{nil, {one}, {one, one}, {one, one, one}} {
			e := syntax.Expr{Op: op, Parts: parts}
			got, code := expr.Eval(e, nil)
			if got == nil && code == api.OK || got != nil && code != api.OK {
				t.Errorf("%q of %d parts: %v, %d", op, len(parts), got, code)
			}
			if (op == "?" || op == "bound") && code != api.ErrType {
				t.Errorf("%q of %d parts: %d", op, len(parts), code)
			}
			if want := got != nil && term.Effective(got) == value.True; want != (expr.Truth(e, nil) == value.True) {
				t.Errorf("Truth of %q of %d parts", op, len(parts))
			}
		}
	}
}
