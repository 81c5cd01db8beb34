package expr_test

import (
	"math/big"
	"math/rand"
	"regexp"
	"strings"
	"testing"

	"beck/api"
	"beck/expr"
	"beck/syntax"
	"beck/term"
	"beck/value"
)

// The model takes the chapter's words one by one: a worth is a term, or the number of an error; a truth is the word "true", "false" or "wrong".
type worthOf struct {
	term term.Term
	code api.Errno
}

var integerText = regexp.MustCompile(`^[+-]?[0-9]+$`)

// whole answers the integer of a term's text, or AsInt's error.
func whole(x term.Term) (*big.Int, api.Errno) {
	l, ok := x.(term.Literal)
	if !ok || l.Type != term.XInt {
		return nil, api.ErrType
	}
	if !integerText.MatchString(l.Text) {
		return nil, api.ErrTerm
	}
	n, _ := new(big.Int).SetString(strings.TrimPrefix(l.Text, "+"), 10)
	if !n.IsInt64() {
		return nil, api.ErrOver
	}
	return n, api.OK
}

// effective is a term as a truth.
func effective(x term.Term) string {
	l, ok := x.(term.Literal)
	n, code := whole(x)
	switch {
	case !ok:
		return "wrong"
	case code == api.OK:
		return word(n.Sign() != 0)
	case l.Type == term.XString || l.Type == term.XLang:
		return word(l.Text != "")
	case l.Type == term.XBool && strings.Contains(" true 1 ", " "+l.Text+" ") && l.Text != "":
		return "true"
	case l.Type == term.XBool && strings.Contains(" false 0 ", " "+l.Text+" ") && l.Text != "":
		return "false"
	}
	return "wrong"
}

func word(yes bool) string {
	if yes {
		return "true"
	}
	return "false"
}

func opposite(truth string) string {
	switch truth {
	case "true":
		return "false"
	case "false":
		return "true"
	}
	return truth
}

func ofWord(truth string) worthOf {
	if truth == "wrong" {
		return worthOf{code: api.ErrType}
	}
	return worthOf{term: literal(truth, term.XBool)}
}

// equals is chapter 3's Equal.
func equals(a, b term.Term) string {
	if a == b {
		return "true"
	}
	x, aOk := a.(term.Literal)
	y, bOk := b.(term.Literal)
	if !aOk || !bOk {
		return "false"
	}
	if x.Type == y.Type && x.Type == term.XInt {
		m, codeOfM := whole(a)
		n, codeOfN := whole(b)
		if codeOfM != api.OK || codeOfN != api.OK {
			return "wrong"
		}
		return word(m.Cmp(n) == 0)
	}
	if x.Type == y.Type && x.Type == term.XBool {
		if effective(a) == "wrong" || effective(b) == "wrong" {
			return "wrong"
		}
		return word(effective(a) == effective(b))
	}
	if x.Type == "u:t" || x.Type == "u:s" || y.Type == "u:t" || y.Type == "u:s" {
		return "wrong"
	}
	return "false"
}

// ahead answers whether a is less than b, whether it is the same, and whether both may be held against each other.
func ahead(a, b term.Term) (less, same, may bool) {
	x, aOk := a.(term.Literal)
	y, bOk := b.(term.Literal)
	if !aOk || !bOk || x.Type != y.Type {
		return false, false, false
	}
	switch x.Type {
	case term.XInt:
		m, codeOfM := whole(a)
		n, codeOfN := whole(b)
		if codeOfM != api.OK || codeOfN != api.OK {
			return false, false, false
		}
		return m.Cmp(n) < 0, m.Cmp(n) == 0, true
	case term.XBool:
		m, n := effective(a), effective(b)
		return m == "false" && n == "true", m == n, m != "wrong" && n != "wrong"
	case term.XString:
		return string([]byte(x.Text)) < string([]byte(y.Text)), x.Text == y.Text, true
	}
	return false, false, false
}

func modelCompare(op string, a, b term.Term) worthOf {
	less, same, may := ahead(a, b)
	if !may {
		return worthOf{code: api.ErrType}
	}
	yes := strings.HasPrefix(op, "<") && less || strings.HasPrefix(op, ">") && !less && !same || strings.HasSuffix(op, "=") && same
	return worthOf{term: literal(word(yes), term.XBool)}
}

func modelCalculate(op string, parts []worthOf) worthOf {
	var l []*big.Int
	if op == "neg" {
		op, l = "-", append(l, new(big.Int))
	}
	for _, part := range parts {
		n, code := whole(part.term)
		if code != api.OK {
			return worthOf{code: code}
		}
		l = append(l, n)
	}
	out := new(big.Int)
	switch op {
	case "+":
		out.Add(l[0], l[1])
	case "-":
		out.Sub(l[0], l[1])
	case "*":
		out.Mul(l[0], l[1])
	case "/":
		if l[1].Sign() == 0 {
			return worthOf{code: api.ErrRange}
		}
		out.Quo(l[0], l[1])
	}
	if !out.IsInt64() {
		return worthOf{code: api.ErrOver}
	}
	return worthOf{term: literal(out.String(), term.XInt)}
}

// either tells || of truths, and, of all turned round, &&.
func either(truths []string) string {
	all := strings.Join(truths, " ")
	switch {
	case strings.Contains(all, "true"):
		return "true"
	case strings.Contains(all, "wrong"):
		return "wrong"
	}
	return "false"
}

func modelEval(e syntax.Expr, terms map[string]term.Term) worthOf {
	var parts []worthOf
	var truths, turned []string
	first := worthOf{}
	for _, part := range e.Parts {
		x := modelEval(part, terms)
		truth := "wrong"
		if x.code == api.OK {
			truth = effective(x.term)
		} else if first.code == api.OK {
			first = x
		}
		parts, truths, turned = append(parts, x), append(truths, truth), append(turned, opposite(truth))
	}
	switch {
	case e.Op == "||":
		return ofWord(either(truths))
	case e.Op == "&&":
		return ofWord(opposite(either(turned)))
	case e.Op == "BOUND":
		_, ok := terms[e.Node.Var]
		return ofWord(word(ok))
	case e.Op == "" && e.Node.Var != "" && terms[e.Node.Var] == nil:
		return worthOf{code: api.ErrBound}
	case e.Op == "" && e.Node.Var != "":
		return worthOf{term: terms[e.Node.Var]}
	case e.Op == "":
		return worthOf{term: e.Node.Term}
	case first.code != api.OK:
		return first
	case e.Op == "!":
		return ofWord(opposite(truths[0]))
	case e.Op == "=":
		return ofWord(equals(parts[0].term, parts[1].term))
	case e.Op == "!=":
		return ofWord(opposite(equals(parts[0].term, parts[1].term)))
	case strings.ContainsAny(e.Op, "<>"):
		return modelCompare(e.Op, parts[0].term, parts[1].term)
	}
	return modelCalculate(e.Op, parts)
}

func modelConstant(e syntax.Expr) bool {
	for _, part := range e.Parts {
		if !modelConstant(part) {
			return false
		}
	}
	return e.Node.Var == ""
}

// someTerm makes terms of few texts and types, so that many pairs may be held against each other.
func someTerm(r *rand.Rand) term.Term {
	integers := []string{"0", "-0", "1", "01", "+1", "-1", "2", "7", "-7", "3037000500", least, greatest, "9223372036854775808", "x", ""}
	truths := []string{"true", "1", "false", "0", "maybe", ""}
	texts := []string{"", "a", "ab", "b", "10", "9", "é", "true"}
	switch r.Intn(20) {
	case 4, 5:
		return literal(truths[r.Intn(len(truths))], term.XBool)
	case 6, 7:
		return term.Plain(texts[r.Intn(len(texts))])
	case 8:
		return term.Literal{Text: texts[r.Intn(3)], Type: term.XLang, Lang: []string{"en", "de"}[r.Intn(2)]}
	case 9:
		return literal(texts[r.Intn(3)], []string{"u:t", "u:s"}[r.Intn(2)])
	case 10:
		return term.IRI{Text: []string{"u:a", "u:b"}[r.Intn(2)]}
	case 11:
		return term.Blank{Label: []string{"a", "b"}[r.Intn(2)]}
	}
	return literal(integers[r.Intn(len(integers))], term.XInt)
}

func someExpr(r *rand.Rand, deep int) syntax.Expr {
	v := []string{"a", "b", "c", "d", "e"}[r.Intn(5)]
	if deep == 1 || r.Intn(8) == 0 {
		switch r.Intn(8) {
		case 0:
			return syntax.Expr{Op: "BOUND", Node: syntax.Node{Var: v}}
		case 1, 2, 3:
			return syntax.Expr{Node: syntax.Node{Var: v}}
		}
		return syntax.Expr{Node: syntax.Node{Term: someTerm(r)}}
	}
	ops := []string{"||", "&&", "=", "!=", "<", "<=", ">", ">=", "+", "-", "*", "/", "!", "neg"}
	e := syntax.Expr{Op: ops[r.Intn(len(ops))]}
	for range 2 {
		e.Parts = append(e.Parts, someExpr(r, deep-1))
	}
	if e.Op == "!" || e.Op == "neg" {
		e.Parts = e.Parts[:1]
	}
	return e
}

// TestModel holds what is answered against the model's answers, of any expressions that may be parsed.
func TestModel(t *testing.T) {
	r := rand.New(rand.NewSource(15))
	answers := map[api.Errno]int{}
	for range 60000 {
		terms := map[string]term.Term{}
		for _, v := range []string{"a", "b", "c", "d"} {
			if r.Intn(4) > 0 {
				terms[v] = someTerm(r)
			}
		}
		e := parsed(t, syntax.PrintExpr(someExpr(r, 1+r.Intn(5))))
		want := modelEval(e, terms)
		got, code := expr.Eval(e, expr.Of(terms))
		if got != want.term || code != want.code {
			t.Fatalf("P15.1: %s of %v: %v, %d, want %v, %d", syntax.PrintExpr(e), terms, got, code, want.term, want.code)
		}
		truth := "wrong"
		if want.code == api.OK {
			truth = effective(want.term)
		}
		if got := expr.Truth(e, expr.Of(terms)); []string{"false", "true", "wrong"}[got] != truth || got > value.Wrong {
			t.Fatalf("P15.1: Truth of %s of %v: %d, want %s", syntax.PrintExpr(e), terms, got, truth)
		}
		if expr.Constant(e) != modelConstant(e) {
			t.Fatalf("P15.1: Constant of %s: %v", syntax.PrintExpr(e), expr.Constant(e))
		}
		answers[code]++
	}
	for _, code := range []api.Errno{api.OK, api.ErrRange, api.ErrTerm, api.ErrOver, api.ErrType, api.ErrBound} {
		if answers[code] < 50 {
			t.Errorf("only %d answers of %d", answers[code], code)
		}
	}
}
