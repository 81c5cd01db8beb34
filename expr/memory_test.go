package expr_test

import (
	"maps"
	"testing"

	"beck/api"
	"beck/expr"
	"beck/syntax"
	"beck/term"
)

// TestOfKeepsItsOwn: a map that is handed in is neither kept nor changed (R6).
func TestOfKeepsItsOwn(t *testing.T) {
	terms := map[string]term.Term{"a": term.Int(1), "b": term.Int(2)}
	before := maps.Clone(terms)
	env := expr.Of(terms)
	for _, s := range []string{"?a + ?b", "?c", "BOUND(?c)", "?a || ?c"} {
		expr.Eval(parsed(t, s), env)
	}
	if !maps.Equal(terms, before) {
		t.Errorf("R6: the map is %v now", terms)
	}
	terms["a"] = term.Int(10)
	terms["c"] = term.Int(20)
	delete(terms, "b")
	if x, code := expr.Eval(parsed(t, "?a + ?b"), env); code != api.OK || x != term.Int(3) {
		t.Errorf("R6: an env goes by the map that was handed in: %v, %d", x, code)
	}
	if x, ok := env("c"); x != nil || ok {
		t.Errorf("P15.1: Of: %v, %v of what isn't in the map", x, ok)
	}
	if x, ok := env("b"); x != term.Int(2) || !ok {
		t.Errorf("P15.1: Of: %v, %v of ?b", x, ok)
	}
}

// TestTreesStay: expressions are what they were, and what is asked again is answered again (R6, R8).
func TestTreesStay(t *testing.T) {
	const text = "?n + 1 < 9 && !(?q || -?n = 7 / ?zero) || BOUND(?q)"
	e := parsed(t, text)
	for range 3 {
		if x, code := expr.Eval(e, known()); told(x, code) != "err 10" {
			t.Errorf("R8: %s", told(x, code))
		}
		expr.Truth(e, known())
		expr.Constant(e)
	}
	if syntax.PrintExpr(e) != syntax.PrintExpr(parsed(t, text)) {
		t.Errorf("R6: the tree is %s now", syntax.PrintExpr(e))
	}
}

// TestOwnEnv: an env may be any function; each var is asked for by its name without "?".
func TestOwnEnv(t *testing.T) {
	env := expr.Env(func(v string) (term.Term, bool) { return term.Int(int64(len(v))), len(v) > 1 })
	for s, want := range map[string]string{"?aa * ?aaa": "6", "?aa + ?a": "err 11", "BOUND(?a)": "false", "BOUND(?abcd)": "true"} {
		if x, code := expr.Eval(parsed(t, s), env); told(x, code) != want {
			t.Errorf("P15.1: %s: %s, want %s", s, told(x, code), want)
		}
	}
}
