package algebra_test

import (
	"slices"
	"testing"

	"beck/algebra"
	"beck/api"
	"beck/solution"
	"beck/syntax"
	"beck/term"
)

// TestExample is the chapter's: the empty group's table is Unit.
func TestExample(t *testing.T) {
	for _, b := range []builder{newBuilder(t, 1), people(t)} {
		x, code := b.eval("{ }")
		if code != api.OK || !solution.Same(x, solution.Unit()) {
			t.Errorf("P16.1: the empty group's table is %v, %d", x, code)
		}
	}
}

func TestTriples(t *testing.T) {
	b := people(t)
	b.is("{ ?x <u:k> ?y . }", "(x=a y=b)(x=b y=c)(x=c y=c)(x=k y=k)")
	b.is("{ ?y <u:k> ?x . }", "(x=b y=a)(x=c y=b)(x=c y=c)(x=k y=k)")
	b.is("{ <u:a> <u:k> ?y . }", "(y=b)")
	b.is("{ ?x <u:k> <u:c> . }", "(x=b)(x=c)")
	b.is("{ <u:a> ?p ?y . }", "(p=k y=b)(p=n y=A)(p=o y=1)")
	b.is("{ ?x ?p <u:c> . }", "(p=k x=b)(p=k x=c)")
	b.is("{ <u:a> ?p <u:b> . }", "(p=k)")
	b.is("{ ?x ?p ?y . FILTER(?p = <u:o>) }", "(p=o x=a y=1)(p=o x=c y=2)")
	b.is("{ <u:a> <u:k> <u:b> . }", "()")
	b.is("{ <u:b> <u:k> <u:a> . }", "")
	b.is("{ _:x <u:n> ?y . }", "(y=01)")
	b.is("{ _:y <u:n> ?y . }", "")
}

// TestSameWherever: a var stands for the same wherever it stands in a triple.
func TestSameWherever(t *testing.T) {
	b := people(t)
	b.is("{ ?x <u:k> ?x . }", "(x=c)(x=k)")
	b.is("{ ?x ?x ?y . }", "(x=k y=k)")
	b.is("{ ?y ?x ?x . }", "(x=k y=k)")
	b.is("{ ?x ?y ?x . }", "(x=c y=k)(x=k y=k)")
	b.is("{ ?x ?x ?x . }", "(x=k)")
	b.is("{ ?x <u:o> ?x . }", "")
	b.is("{ WINDOW <u:w> { ?x ?p ?x . } }", "(p=m x=a)(p=m x=a)")
	b.is("{ ?x <u:k>/<u:k> ?x . }", "(x=c)(x=k)")
	b.is("{ WINDOW <u:w> { ?x <u:k>+ ?x . } }", "(x=a)(x=z)")
}

// TestTermsFitThemselves: a term fits itself alone, be it equal to another one or not.
func TestTermsFitThemselves(t *testing.T) {
	b := people(t)
	before := b.Dict.Len()
	b.is("{ ?x ?p 1 . }", "(p=o x=a)")
	b.is("{ ?x ?p 01 . }", "(p=n x=_:x)")
	b.is("{ ?x ?p 001 . }", "")
	b.is("{ ?x ?p \"1\" . }", "")
	b.is("{ ?x ?p \"A\" . }", "(p=n x=a)")
	b.is("{ ?x ?p \"A\"@en . }", "")
	b.is("{ ?x ?p \"B\"@en . }", "(p=n x=b)")
	b.is("{ ?x ?p \"B\"@EN . }", "")
	b.is("{ ?x ?p \"B\" . }", "")
	b.is("{ ?x <u:unknown> ?y . }", "")
	b.is("{ <u:unknown> ?p ?y . }", "")
	b.is("{ ?x ?p <u:unknown> . }", "")
	b.is("{ 1 ?p ?y . }", "")
	b.is("{ \"u:a\" ?p ?y . }", "")
	b.is("{ ?x <u:unknown>* <u:unknown2> . }", "")
	if b.Dict.Len() != before {
		t.Errorf("P16.1: what queries speak of was put into the dictionary: %d terms, want %d", b.Dict.Len(), before)
	}
}

func TestJoined(t *testing.T) {
	b := people(t)
	b.is("{ ?x <u:k> ?y . ?y <u:k> ?z . }", "(x=a y=b z=c)(x=b y=c z=c)(x=c y=c z=c)(x=k y=k z=k)")
	b.is("{ ?x <u:k> ?y . ?x <u:o> ?o . }", "(o=1 x=a y=b)(o=2 x=c y=c)")
	b.is("{ ?x <u:o> ?o . ?y <u:n> \"A\" . }", "(o=1 x=a y=a)(o=2 x=c y=a)")
	b.is("{ ?x <u:k> ?y . ?y <u:unknown> ?z . }", "")
	b.is("{ <u:a> <u:k> <u:b> . ?x <u:o> 2 . }", "(x=c)")
	b.is("{ ?x <u:k> ?y . ?x <u:k> ?y . }", "(x=a y=b)(x=b y=c)(x=c y=c)(x=k y=k)")
}

func TestPaths(t *testing.T) {
	b := people(t)
	b.is("{ ?x ^<u:k> ?y . }", "(x=b y=a)(x=c y=b)(x=c y=c)(x=k y=k)")
	b.is("{ ?x ^<u:k> <u:a> . }", "(x=b)")
	b.is("{ <u:c> ^<u:k> ?y . }", "(y=b)(y=c)")
	b.is("{ ?x <u:k>/<u:k> ?y . }", "(x=a y=c)(x=b y=c)(x=c y=c)(x=k y=k)")
	b.is("{ ?x <u:k>/<u:o> ?y . }", "(x=b y=2)(x=c y=2)")
	b.is("{ ?x <u:k>/<u:o> 2 . }", "(x=b)(x=c)")
	b.is("{ ?x <u:o>|<u:n> ?y . FILTER(?x = <u:a>) }", "(x=a y=1)(x=a y=A)")
	b.is("{ <u:a> <u:o>|<u:n> 1 . }", "()")
	b.is("{ <u:a> <u:o>|<u:n> 2 . }", "")
	b.is("{ ?x <u:k>+ <u:c> . }", "(x=a)(x=b)(x=c)")
	b.is("{ <u:a> <u:k>+ ?y . }", "(y=b)(y=c)")
	b.is("{ <u:a> <u:k>* ?y . }", "(y=a)(y=b)(y=c)")
	b.is("{ <u:a> <u:k>~ ?y . }", "(y=a)(y=b)")
	b.is("{ <u:a> <u:k>* <u:c> . }", "()")
	b.is("{ <u:c> <u:k>* <u:a> . }", "")
	b.is("{ 2 ^<u:o>/^<u:k>* ?y . }", "(y=a)(y=b)(y=c)")
	b.is("{ ?x (<u:o>/^<u:o>)+ ?y . }", "(x=a y=a)(x=c y=c)")
	b.is("{ ?x <u:unknown>/<u:k> ?y . }", "")
	b.is("{ ?x <u:unknown>|<u:o> ?y . }", "(x=a y=1)(x=c y=2)")
}

// TestWithoutSymbols: a path that may go nowhere pairs each node of any edge with itself, and no other term.
func TestWithoutSymbols(t *testing.T) {
	b := people(t)
	all := "(x=01)(x=1)(x=2)(x=A)(x=B@en)(x=_:x)(x=a)(x=b)(x=c)(x=k)"
	b.is("{ ?x <u:unknown>~ ?x . }", all)
	b.is("{ ?x <u:unknown>* ?y . FILTER(?x = <u:c>) }", "(x=c y=c)")
	b.is("{ ?x <u:unknown>* <u:c> . }", "(x=c)")
	b.is("{ \"A\" <u:k>* ?x . }", "(x=A)")
	b.is("{ ?x <u:k>* 2 . }", "(x=2)")
	b.is("{ <u:o> <u:k>* ?x . }", "")
	b.is("{ <u:unknown> <u:k>* <u:unknown> . }", "")
	b.is("{ WINDOW <u:w> { ?x <u:k>~ <u:c> . } }", "(x=c)")
	b.is("{ WINDOW <u:w> { <u:b> <u:k>~ ?x . } }", "")
	b.is("{ WINDOW <u:e> { ?x <u:k>~ ?y . } }", "")
}

// TestOnce: triples come as often as they are there, pairs of paths once each.
func TestOnce(t *testing.T) {
	b := people(t)
	b.is("{ WINDOW <u:w> { ?x <u:m> ?y . } }", "(x=a y=a)(x=a y=a)(x=c y=z)")
	b.is("{ WINDOW <u:w> { <u:a> <u:m> <u:a> . } }", "()()")
	b.is("{ WINDOW <u:w> { ?x ?p <u:z> . } }", "(p=k x=a)(p=k x=a)(p=m x=c)")
	b.is("{ WINDOW <u:w> { ?x <u:m>+ ?y . } }", "(x=a y=a)(x=c y=z)")
	b.is("{ WINDOW <u:w> { ?x <u:m>|<u:k> <u:z> . } }", "(x=a)(x=c)")
	b.is("{ WINDOW <u:w> { <u:z> ^<u:k> ?y . } }", "(y=a)")
	b.is("{ WINDOW <u:w> { <u:a> <u:k> ?y . <u:a> <u:m> ?x . } }", "(x=a y=z)(x=a y=z)(x=a y=z)(x=a y=z)")
}

func TestWindows(t *testing.T) {
	b := people(t)
	b.is("{ WINDOW <u:w> { ?x <u:o> ?y . } }", "")
	b.is("{ WINDOW <u:e> { ?x ?p ?y . } }", "")
	b.is("{ WINDOW <u:nil> { ?x ?p ?y . } }", "")
	b.is("{ WINDOW <u:nil> { } }", "()")
	b.is("{ WINDOW <u:w> { ?x <u:k>/<u:k> ?y . } }", "(x=a y=a)(x=z y=z)")
	b.is("{ WINDOW <u:w> { ?x <u:m> ?y . } ?x <u:o> ?n . FILTER(?n > 1) }", "(n=2 x=c y=z)")
	b.is("{ WINDOW <u:w> { ?x <u:k> <u:z> . } WINDOW <u:v> { ?y <u:k> ?x . } }", "(x=a y=c)(x=a y=c)")
	b.is("{ WINDOW <u:w> { { ?x <u:k> <u:z> . } UNION { ?x <u:k> <u:c> . } } }", "(x=a)(x=a)")
	b.is("{ WINDOW <u:w> { <u:c> <u:m> ?x . OPTIONAL { ?x <u:k> ?y . } OPTIONAL { ?x <u:o> ?z . } } }", "(x=z y=a)")
	b.is("{ OPTIONAL { WINDOW <u:v> { ?x ?p ?y . } ?x <u:k> ?z . } }", "(p=k x=c y=a z=c)")
	b.is("{ WINDOW <u:v> { WINDOW <u:w> { ?x <u:m> <u:z> . } ?x <u:k> ?y . } ?x <u:o> ?n . }", "(n=2 x=c y=a)")
}

func TestBind(t *testing.T) {
	b := people(t)
	b.is("{ ?x <u:o> ?n . BIND(?n * 10 AS ?m) BIND(?x + 1 AS ?e) BIND(?m + ?n AS ?s) }", "(m=10 n=1 s=11 x=a)(m=20 n=2 s=22 x=c)")
	b.is("{ ?x <u:o> ?n . BIND(2 / (?n - 1) AS ?m) }", "(m=2 n=2 x=c)(n=1 x=a)")
	b.is("{ BIND(<u:a> AS ?x) ?x <u:o> ?n . }", "(n=1 x=a)")
	b.is("{ BIND(<u:new> AS ?x) OPTIONAL { ?x <u:o> ?n . } }", "(x=new)")
	b.is("{ BIND(1 + 1 AS ?n) ?x <u:o> ?n . }", "(n=2 x=c)")
	b.is("{ BIND(?no AS ?y) ?x <u:o> ?y . }", "(x=a y=1)(x=c y=2)")
	b.is("{ ?x <u:o> ?n . BIND(?n < 2 AS ?m) BIND(BOUND(?m) AS ?l) }", "(l=true m=false n=2 x=c)(l=true m=true n=1 x=a)")
	b.is("{ OPTIONAL { ?x <u:unknown> 1 . } BIND(BOUND(?x) AS ?y) }", "(y=false)")
	b.is("{ ?x <u:unknown> ?n . BIND(1 AS ?m) }", "")
	b.is("{ WINDOW <u:w> { <u:a> <u:m> ?x . BIND(?x AS ?y) } }", "(x=a y=a)(x=a y=a)")
	b.is("{ BIND(7 AS ?x) FILTER(?x = 07) }", "(x=7)")
}

// TestBindPuts: values that have no number get one, others go on with theirs; nothing else is put.
func TestBindPuts(t *testing.T) {
	b := people(t)
	before := b.Dict.Len()
	b.is("{ ?x <u:o> ?n . BIND(?n + 1 AS ?m) BIND(?x AS ?y) FILTER(?m = 77 || ?m = 2) }", "(m=2 n=1 x=a y=a)")
	three, code := b.Dict.Find(term.Int(3))
	if b.Dict.Len() != before+1 || three != before || code != api.OK {
		t.Errorf("P16.1: %d terms, 3 has %d, %d", b.Dict.Len(), three, code)
	}
	b.is("{ ?x <u:o> ?n . BIND(?n + 1 AS ?m) BIND(?x / 0 AS ?y) }", "(m=2 n=1 x=a)(m=3 n=2 x=c)")
	if b.Dict.Len() != before+1 {
		t.Errorf("P16.1: %d terms, want %d", b.Dict.Len(), before+1)
	}
}

func TestOptional(t *testing.T) {
	b := people(t)
	b.is("{ ?x <u:k> ?y . OPTIONAL { ?y <u:o> ?n . } }", "(n=2 x=b y=c)(n=2 x=c y=c)(x=a y=b)(x=k y=k)")
	b.is("{ ?x <u:k> ?y . OPTIONAL { ?y <u:o> ?n . FILTER(?n > 2) } }", "(x=a y=b)(x=b y=c)(x=c y=c)(x=k y=k)")
	b.is("{ ?x <u:k> ?y . OPTIONAL { ?y <u:o> ?n . FILTER(?x != ?y) } }", "(x=a y=b)(x=b y=c)(x=c y=c)(x=k y=k)")
	b.is("{ OPTIONAL { ?x <u:o> 1 . } ?x <u:k> ?y . }", "(x=a y=b)")
	b.is("{ OPTIONAL { ?x <u:unknown> 1 . } ?x <u:o> 2 . }", "(x=c)")
	b.is("{ OPTIONAL { } }", "()")
	b.is("{ ?x <u:o> ?n . OPTIONAL { ?x <u:n> ?m . } OPTIONAL { ?y <u:n> ?m . } }", "(m=01 n=2 x=c y=_:x)(m=A n=1 x=a y=a)(m=A n=2 x=c y=a)(m=B@en n=2 x=c y=b)")
	b.is("{ ?x <u:unknown> ?n . OPTIONAL { ?x <u:k> ?y . } }", "")
}

func TestUnion(t *testing.T) {
	b := people(t)
	b.is("{ { ?x <u:o> 1 . } UNION { ?x <u:o> 2 . } UNION { } }", "()(x=a)(x=c)")
	b.is("{ { ?x <u:k> <u:c> . } UNION { ?x <u:k> ?x . } }", "(x=b)(x=c)(x=c)(x=k)")
	b.is("{ ?x <u:o> ?n . { ?x <u:k> ?y . } UNION { ?y <u:k> ?x . } }", "(n=1 x=a y=b)(n=2 x=c y=b)(n=2 x=c y=c)(n=2 x=c y=c)")
	b.is("{ { ?x <u:o> ?n . } }", "(n=1 x=a)(n=2 x=c)")
	b.is("{ { } { } }", "()")
	b.is("{ { } UNION { } }", "()()")
	b.is("{ { BIND(1 AS ?x) } UNION { BIND(2 AS ?y) } }", "(x=1)(y=2)")
}

// TestOrderOfUnion: first come the rows of the first group's table.
func TestOrderOfUnion(t *testing.T) {
	b := people(t)
	x, _ := b.eval("{ { BIND(2 AS ?x) } UNION { BIND(1 AS ?x) } UNION { BIND(3 AS ?x) } }")
	env := func(i int) term.Term { y, _ := algebra.Env(b.Dict, x, x.Rows[i])("x"); return y }
	if len(x.Rows) != 3 || env(0) != term.Int(2) || env(1) != term.Int(1) || env(2) != term.Int(3) {
		t.Errorf("P16.1: a union's rows: %v", x.Rows)
	}
}

func TestFilter(t *testing.T) {
	b := people(t)
	b.is("{ FILTER(?n < 2) ?x <u:o> ?n . }", "(n=1 x=a)")
	b.is("{ ?x <u:k> ?y . FILTER(?x != ?y) }", "(x=a y=b)(x=b y=c)")
	b.is("{ FILTER(?x != ?y) ?x <u:k> ?y . FILTER(?y = <u:c>) }", "(x=b y=c)")
	b.is("{ ?x <u:o> ?n . FILTER(?m < 2) }", "")
	b.is("{ ?x <u:o> ?n . FILTER(!BOUND(?m)) BIND(2 / (?n - 1) AS ?m) }", "(n=1 x=a)")
	b.is("{ ?x <u:o> ?n . FILTER(?n) }", "(n=1 x=a)(n=2 x=c)")
	b.is("{ ?x <u:o> ?n . FILTER(?n - 1) }", "(n=2 x=c)")
	b.is("{ ?x <u:o> ?n . FILTER(?x) }", "")
	b.is("{ FILTER(FALSE) }", "")
	b.is("{ FILTER(TRUE) FILTER(1 / 0 || TRUE) }", "()")
	b.is("{ ?x <u:k> ?y . { FILTER(FALSE) } UNION { FILTER(TRUE) } }", "(x=a y=b)(x=b y=c)(x=c y=c)(x=k y=k)")
}

// TestEnv: vars stand for the terms of a row's numbers.
func TestEnv(t *testing.T) {
	b := people(t)
	n, _ := b.Dict.Find(term.IRI{Text: "u:c"})
	x := solution.Of([]string{"a", "b", "c", "d"}, []int{0, n, -1, b.Dict.Len()})
	env := algebra.Env(b.Dict, x, x.Rows[0])
	for v, want := range map[string]term.Term{"a": term.IRI{Text: "u:a"}, "b": term.IRI{Text: "u:c"}, "c": nil, "d": nil, "e": nil, "": nil, "?a": nil, "A": nil} {
		if got, ok := env(v); got != want || ok != (want != nil) {
			t.Errorf("P16.1: Env of %q: %v, %v, want %v", v, got, ok, want)
		}
	}
	none := algebra.Env(b.Dict, solution.Unit(), nil)
	if got, ok := none("a"); got != nil || ok {
		t.Errorf("P16.1: Env of Unit: %v, %v", got, ok)
	}
}

// TestEnvKeepsItsOwn: a row, and a table's lists, are neither kept nor changed (R6).
func TestEnvKeepsItsOwn(t *testing.T) {
	b := people(t)
	x := solution.Of([]string{"a", "b"}, []int{0, 2})
	row := slices.Clone(x.Rows[0])
	env := algebra.Env(b.Dict, x, row)
	first, _ := env("a")
	row[0], row[1] = 2, -1
	x.Vars[0], x.Vars[1] = "c", "d"
	x.Rows[0][0] = 1
	if got, ok := env("a"); got != first || !ok {
		t.Errorf("R6: an env goes by what was handed in: %v, %v", got, ok)
	}
	if got, ok := env("b"); got == nil || !ok {
		t.Errorf("R6: an env goes by what was handed in: %v, %v", got, ok)
	}
	if got, ok := env("c"); got != nil || ok {
		t.Errorf("R6: an env goes by what was handed in: %v, %v", got, ok)
	}
}

// TestNothingThere: without a dictionary and a store each call ends.
func TestNothingThere(t *testing.T) {
	for group, want := range map[string]api.Errno{
		"{ }": api.OK, "{ ?x <u:k> ?y . }": api.OK, "{ ?x <u:k>* <u:a> . FILTER(?x = 1) }": api.OK, "{ BIND(1 AS ?x) }": api.ErrFull, "{ WINDOW <u:w> { } }": api.ErrNone,
	} {
		if _, code := algebra.Eval(parsed(t, group), algebra.Data{}); code != want {
			t.Errorf("P8: %s without data: %d, want %d", group, code, want)
		}
	}
	if got, ok := algebra.Env(nil, solution.Of([]string{"a"}), []int{0})("a"); got != nil || ok {
		t.Errorf("P8: Env without a dictionary: %v, %v", got, ok)
	}
}

// TestOtherTrees: trees that no text has don't break it.
func TestOtherTrees(t *testing.T) {
	b := people(t)
	v := syntax.Node{Var: "x"}
	for _, x := range []syntax.Item{
		{}, {Kind: -1}, {Kind: 99}, {Kind: syntax.Filter}, {Kind: syntax.Bind}, {Kind: syntax.Bind, Var: "x", Expr: syntax.Expr{Node: syntax.Node{Term: term.IRI{Text: "bad"}}}},
		{Kind: syntax.Optional}, {Kind: syntax.Union}, {Kind: syntax.Window, IRI: "u:w"},
		{S: v, O: v, Path: syntax.Path{Kind: 99}}, {S: v, O: syntax.Node{Term: term.Int(1)}, Path: syntax.Path{Kind: 4}}, {S: v, O: v, Path: syntax.Path{Kind: 2}},
		{S: syntax.Node{Term: term.IRI{Text: "bad"}}, P: v, O: v}, {S: v, P: syntax.Node{Term: term.IRI{Text: "u:k"}}, O: v},
	} {
		g := syntax.Group{Items: []syntax.Item{x}}
		before := b.Dict.Len()
		if table, code := algebra.Eval(g, b.Data); !table.Good() || code != api.OK && len(table.Vars) > 0 || b.Dict.Len() != before {
			t.Errorf("P8: of %v: %v, %d, %d terms", x, table, code, b.Dict.Len())
		}
	}
}
