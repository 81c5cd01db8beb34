package syntax_test

import (
	"fmt"
	"strings"
	"testing"

	"beck/api"
	"beck/nfa"
	"beck/syntax"
	"beck/term"
	"beck/window"
)

// The tests of this file are P12.1's: what is of the grammar is parsed, and the tree has what the chapter tells. (errors_test.go has what isn't of the grammar, print_test.go P12.2, model_test.go all against the grammar itself.)

const head = "REGISTER RSTREAM <u:o> AS SELECT ?x WHERE "

// told is all that a tree has; lists that are empty are told alike.
func told(tree any) string { return strings.ReplaceAll(fmt.Sprintf("%#v", tree), "(nil)", "{}") }

func parsed(t *testing.T, s string) syntax.Query {
	t.Helper()
	q, place, e := syntax.Parse(s)
	if e != api.OK || place != 0 {
		t.Fatalf("P12.1: Parse(%.300q): %d, %d", s, place, e)
	}
	return q
}

func parsedExpr(t *testing.T, s string) syntax.Expr {
	t.Helper()
	x, place, e := syntax.ParseExpr(s)
	if e != api.OK || place != 0 {
		t.Fatalf("P12.1: ParseExpr(%.300q): %d, %d", s, place, e)
	}
	return x
}

// items are those of the WHERE of a plain query.
func items(t *testing.T, s string) []syntax.Item {
	t.Helper()
	return parsed(t, head+"{"+s+"}").Where.Items
}

func v(name string) syntax.Node { return syntax.Node{Var: name} }

func of(t term.Term) syntax.Node { return syntax.Node{Term: t} }

func iri(text string) syntax.Node { return of(term.IRI{Text: text}) }

func number(digits string) syntax.Node { return of(term.Literal{Text: digits, Type: term.XInt}) }

func step(iri string) syntax.Path { return syntax.Path{Kind: nfa.Step, IRI: iri} }

func path(kind int, parts ...syntax.Path) syntax.Path { return syntax.Path{Kind: kind, Parts: parts} }

func one(n syntax.Node) syntax.Expr { return syntax.Expr{Node: n} }

func bound(name string) syntax.Expr { return syntax.Expr{Op: "BOUND", Node: v(name)} }

func done(op string, parts ...syntax.Expr) syntax.Expr { return syntax.Expr{Op: op, Parts: parts} }

// group is the one of a triple that is easily known.
func group(name string) syntax.Group {
	return syntax.Group{Items: []syntax.Item{{S: v(name), Path: step("u:p"), O: v("o")}}}
}

func TestExample(t *testing.T) {
	want := syntax.Query{
		Kind: "RSTREAM", IRI: "u:o", Select: []syntax.Select{{Var: "x"}},
		Where: syntax.Group{Items: []syntax.Item{{Kind: syntax.Triple, S: v("x"), Path: step("u:p"), O: number("1")}}},
	}
	got := parsed(t, "REGISTER RSTREAM <u:o> AS SELECT ?x WHERE { ?x <u:p> 1 . }")
	if told(got) != told(want) {
		t.Errorf("P12.1: %s, want %s", told(got), told(want))
	}
}

func TestNumbersOfKinds(t *testing.T) {
	for want, kind := range []int{syntax.Triple, syntax.Filter, syntax.Bind, syntax.Optional, syntax.Union, syntax.Window} {
		if kind != want {
			t.Errorf("P12.1: kind %d is %d", want, kind)
		}
	}
}

func TestHeads(t *testing.T) {
	source := func(name, stream string, width, slide, begin, policy int) syntax.Source {
		return syntax.Source{Name: name, Stream: stream, Shape: window.Shape{Width: width, Slide: slide, Begin: begin}, Policy: policy}
	}
	x := []syntax.Select{{Var: "x"}}
	for s, want := range map[string]syntax.Query{
		"REGISTER RSTREAM <u:o> AS SELECT ?x WHERE {}":          {Kind: "RSTREAM", IRI: "u:o", Select: x},
		"REGISTER ISTREAM <u:o> AS SELECT ?x WHERE {}":          {Kind: "ISTREAM", IRI: "u:o", Select: x},
		"REGISTER DSTREAM <u:é> AS SELECT ?x WHERE {}":          {Kind: "DSTREAM", IRI: "u:é", Select: x},
		"REGISTER RSTREAM <u:\\u0041> AS SELECT ?x WHERE {}":    {Kind: "RSTREAM", IRI: "u:A", Select: x},
		"REGISTER RSTREAM <u:o> AS SELECT DISTINCT ?x WHERE {}": {Kind: "RSTREAM", IRI: "u:o", Distinct: true, Select: x},
		"REGISTER RSTREAM <u:o> AS SELECT ?x ?y ?x WHERE {}":    {Kind: "RSTREAM", IRI: "u:o", Select: []syntax.Select{{Var: "x"}, {Var: "y"}, {Var: "x"}}},
		"REGISTER RSTREAM <u:o> AS SELECT (COUNT(*) AS ?n) (COUNT(?a) AS ?b) (SUM(*) AS ?c) ?x (SUM(?d) AS ?e) (MIN(?f) AS ?g) (MAX(?h) AS ?i) WHERE {}": {Kind: "RSTREAM", IRI: "u:o", Select: []syntax.Select{
			{Var: "n", Fold: "COUNT", Of: "*"}, {Var: "b", Fold: "COUNT", Of: "a"}, {Var: "c", Fold: "SUM", Of: "*"}, {Var: "x"}, {Var: "e", Fold: "SUM", Of: "d"}, {Var: "g", Fold: "MIN", Of: "f"}, {Var: "i", Fold: "MAX", Of: "h"}}},
		"REGISTER RSTREAM <u:o> AS SELECT ?x FROM WINDOW <u:w> ON <u:s> [RANGE 10 STEP 5] WHERE {}":                   {Kind: "RSTREAM", IRI: "u:o", Select: x, Sources: []syntax.Source{source("u:w", "u:s", 10, 5, 0, window.Close)}},
		"REGISTER RSTREAM <u:o> AS SELECT ?x FROM WINDOW <u:w> ON <u:s> [RANGE 0 STEP 007 BEGIN 3] NONEMPTY WHERE {}": {Kind: "RSTREAM", IRI: "u:o", Select: x, Sources: []syntax.Source{source("u:w", "u:s", 0, 7, 3, window.NonEmpty)}},
		"REGISTER RSTREAM <u:o> AS SELECT ?x FROM WINDOW <u:w> ON <u:s> [RANGE 9223372036854775807 STEP 1 BEGIN -9223372036854775808] CHANGE FROM WINDOW <u:w> ON <u:s> [RANGE 1 STEP 1 BEGIN -0] WHERE {} GROUP BY ?x": {Kind: "RSTREAM", IRI: "u:o", Select: x, By: []string{"x"}, Sources: []syntax.Source{
			source("u:w", "u:s", 1<<63-1, 1, -1<<63, window.Change), source("u:w", "u:s", 1, 1, 0, window.Close)}},
		"REGISTER RSTREAM <u:o> AS SELECT ?x WHERE {} GROUP BY ?b ?a ?b": {Kind: "RSTREAM", IRI: "u:o", Select: x, By: []string{"b", "a", "b"}},
	} {
		if got := parsed(t, s); told(got) != told(want) {
			t.Errorf("P12.1: Parse(%s): %s, want %s", s, told(got), told(want))
		}
	}
}

func TestItems(t *testing.T) {
	literal := func(text, kind, lang string) syntax.Node { return of(term.Literal{Text: text, Type: kind, Lang: lang}) }
	p := step("u:p")
	for s, want := range map[string][]syntax.Item{
		"":                          nil,
		"?x ?y ?z .":                {{S: v("x"), P: v("y"), O: v("z")}},
		"<u:a> <u:p> <u:b> .":       {{S: iri("u:a"), Path: p, O: iri("u:b")}},
		"_:a <u:p> _:b-_1 .":        {{S: of(term.Blank{Label: "a"}), Path: p, O: of(term.Blank{Label: "b-_1"})}},
		`"a" <u:p> "b\n\u0041" .`:   {{S: literal("a", term.XString, ""), Path: p, O: literal("b\nA", term.XString, "")}},
		`"a"@en-gb ?p "b"^^<u:t> .`: {{S: literal("a", term.XLang, "en-gb"), P: v("p"), O: literal("b", "u:t", "")}},
		`"true"^^<` + term.XBool + `> ?p "1"^^<` + term.XInt + `> .`: {{S: of(term.Bool(true)), P: v("p"), O: number("1")}},
		"0 ?p 9223372036854775807 .":                                 {{S: number("0"), P: v("p"), O: number("9223372036854775807")}},
		"007 ?p 00 .":                                                {{S: number("007"), P: v("p"), O: number("00")}},
		"?x <u:p> ?y . ?y <u:p> ?z .":                                {{S: v("x"), Path: p, O: v("y")}, {S: v("y"), Path: p, O: v("z")}},
		"FILTER (?x)":                                                {{Kind: syntax.Filter, Expr: one(v("x"))}},
		"FILTER ((?x))":                                              {{Kind: syntax.Filter, Expr: one(v("x"))}},
		"BIND (?x AS ?y)":                                            {{Kind: syntax.Bind, Expr: one(v("x")), Var: "y"}},
		"BIND (TRUE && 1 AS ?AS)":                                    {{Kind: syntax.Bind, Expr: done("&&", one(of(term.Bool(true))), one(number("1"))), Var: "AS"}},
		"OPTIONAL {}":                                                {{Kind: syntax.Optional, Groups: []syntax.Group{{}}}},
		"OPTIONAL { ?a <u:p> ?o . }":                                 {{Kind: syntax.Optional, Groups: []syntax.Group{group("a")}}},
		"{}":                                                         {{Kind: syntax.Union, Groups: []syntax.Group{{}}}},
		"{ ?a <u:p> ?o . } UNION {}":                                 {{Kind: syntax.Union, Groups: []syntax.Group{group("a"), {}}}},
		"{} {}":                                                      {{Kind: syntax.Union, Groups: []syntax.Group{{}}}, {Kind: syntax.Union, Groups: []syntax.Group{{}}}},
		"{} UNION {} UNION { ?c <u:p> ?o . } ?a ?b ?c .": {{Kind: syntax.Union, Groups: []syntax.Group{{}, {}, group("c")}}, {S: v("a"), P: v("b"), O: v("c")}},
		"WINDOW <u:w> {}":                {{Kind: syntax.Window, IRI: "u:w", Groups: []syntax.Group{{}}}},
		"WINDOW <u:w> { ?a <u:p> ?o . }": {{Kind: syntax.Window, IRI: "u:w", Groups: []syntax.Group{group("a")}}},
		"{ { OPTIONAL {} } }": {{Kind: syntax.Union, Groups: []syntax.Group{{Items: []syntax.Item{{Kind: syntax.Union, Groups: []syntax.Group{{Items: []syntax.Item{
			{Kind: syntax.Optional, Groups: []syntax.Group{{}}}}}}}}}}}},
	} {
		if got := items(t, s); told(got) != told(want) {
			t.Errorf("P12.1: items of %s: %s, want %s", s, told(got), told(want))
		}
	}
}

func TestPaths(t *testing.T) {
	a, b, c := step("u:a"), step("u:b"), step("u:c")
	back := syntax.Path{Kind: nfa.Back, IRI: "u:a"}
	for s, want := range map[string]syntax.Path{
		"<u:a>":                 a,
		"((<u:a>))":             a,
		"^<u:a>":                back,
		"^ <u:a>":               back,
		"(^<u:a>)":              back,
		"<u:a>*":                path(nfa.Star, a),
		"<u:a>+":                path(nfa.Plus, a),
		"<u:a>~":                path(nfa.Opt, a),
		"^<u:a>*":               path(nfa.Star, back),
		"(<u:a>*)":              path(nfa.Star, a),
		"(<u:a>*)*":             path(nfa.Star, path(nfa.Star, a)),
		"((<u:a>~)+)*":          path(nfa.Star, path(nfa.Plus, path(nfa.Opt, a))),
		"<u:a>/<u:b>":           path(nfa.Seq, a, b),
		"<u:a>/<u:b>/<u:c>":     path(nfa.Seq, a, b, c),
		"(<u:a>/<u:b>)/<u:c>":   path(nfa.Seq, path(nfa.Seq, a, b), c),
		"<u:a>/(<u:b>/<u:c>)":   path(nfa.Seq, a, path(nfa.Seq, b, c)),
		"(<u:a>/<u:b>/<u:c>)":   path(nfa.Seq, a, b, c),
		"<u:a>|<u:b>":           path(nfa.Alt, a, b),
		"<u:a>|<u:b>|<u:c>":     path(nfa.Alt, a, b, c),
		"(<u:a>|<u:b>)|<u:c>":   path(nfa.Alt, path(nfa.Alt, a, b), c),
		"<u:a>|(<u:b>|<u:c>)":   path(nfa.Alt, a, path(nfa.Alt, b, c)),
		"<u:a>|<u:b>/<u:c>":     path(nfa.Alt, a, path(nfa.Seq, b, c)),
		"<u:a>/<u:b>|<u:c>":     path(nfa.Alt, path(nfa.Seq, a, b), c),
		"(<u:a>|<u:b>)/<u:c>":   path(nfa.Seq, path(nfa.Alt, a, b), c),
		"<u:a>/<u:b>*":          path(nfa.Seq, a, path(nfa.Star, b)),
		"(<u:a>/<u:b>)*":        path(nfa.Star, path(nfa.Seq, a, b)),
		"<u:a>+|<u:b>~/^<u:a>*": path(nfa.Alt, path(nfa.Plus, a), path(nfa.Seq, path(nfa.Opt, b), path(nfa.Star, back))),
	} {
		for _, spelt := range []string{s, strings.NewReplacer("<", " <", ">", "> ", "*", "* ", "(", " ( ", ")", " ) ", "/", " / ", "|", "\n|\t").Replace(s)} {
			l := items(t, "?x"+spelt+"?y.")
			if len(l) != 1 || told(l[0]) != told(syntax.Item{S: v("x"), Path: want, O: v("y")}) {
				t.Errorf("P12.1: path %s: %s, want %s", spelt, told(l), told(want))
			}
		}
	}
	// A mark that may go on in the path does; what is behind it is the object.
	if l := items(t, "1<u:a>+1."); told(l) != told([]syntax.Item{{S: number("1"), Path: path(nfa.Plus, a), O: number("1")}}) {
		t.Errorf("P12.1: %s", told(l))
	}
	if l := items(t, `"a"^<u:a>"b"^^<u:t>.`); told(l) != told([]syntax.Item{{S: of(term.Plain("a")), Path: back, O: of(term.Literal{Text: "b", Type: "u:t"})}}) {
		t.Errorf("P12.1: %s", told(l))
	}
}

func TestExpressions(t *testing.T) {
	x, y, z := one(v("x")), one(v("y")), one(v("z"))
	yes, no := one(of(term.Bool(true))), one(of(term.Bool(false)))
	n := func(digits string) syntax.Expr { return one(number(digits)) }
	for s, want := range map[string]syntax.Expr{
		"?x":                          x,
		"<u:a>":                       one(iri("u:a")),
		"_:a-1":                       one(of(term.Blank{Label: "a-1"})),
		`"a"@en`:                      one(of(term.Literal{Text: "a", Type: term.XLang, Lang: "en"})),
		"007":                         n("007"),
		"TRUE":                        yes,
		"FALSE":                       no,
		"?TRUE":                       one(v("TRUE")),
		"BOUND(?x)":                   bound("x"),
		"BOUND ( ?x )":                bound("x"),
		"(((?x)))":                    x,
		"?x||?y":                      done("||", x, y),
		"?x||?y||?z":                  done("||", done("||", x, y), z),
		"?x||(?y||?z)":                done("||", x, done("||", y, z)),
		"?x&&?y&&?z":                  done("&&", done("&&", x, y), z),
		"?x||?y&&?z":                  done("||", x, done("&&", y, z)),
		"?x&&?y||?z":                  done("||", done("&&", x, y), z),
		"(?x||?y)&&?z":                done("&&", done("||", x, y), z),
		"?x=?y":                       done("=", x, y),
		"?x!=?y":                      done("!=", x, y),
		"?x<=?y":                      done("<=", x, y),
		"?x>=?y":                      done(">=", x, y),
		"?x<?y":                       done("<", x, y),
		"?x>?y":                       done(">", x, y),
		"?x< <u:a>":                   done("<", x, one(iri("u:a"))),
		"?x<<u:a>":                    done("<", x, one(iri("u:a"))),
		"<u:a><<u:a>":                 done("<", one(iri("u:a")), one(iri("u:a"))),
		"?x<=<u:a>":                   done("<=", x, one(iri("u:a"))),
		"?x><u:a>":                    done(">", x, one(iri("u:a"))),
		"\"a\"<?y":                    done("<", one(of(term.Plain("a"))), y),
		"(?x)<?y":                     done("<", x, y),
		"1<2":                         done("<", n("1"), n("2")),
		"BOUND(?x)<TRUE":              done("<", bound("x"), yes),
		"(?x=?y)=?z":                  done("=", done("=", x, y), z),
		"?x=(?y=?z)":                  done("=", x, done("=", y, z)),
		"?x=?y&&?y=?z":                done("&&", done("=", x, y), done("=", y, z)),
		"?x+?y+?z":                    done("+", done("+", x, y), z),
		"?x-?y-?z":                    done("-", done("-", x, y), z),
		"?x-(?y-?z)":                  done("-", x, done("-", y, z)),
		"?x+?y-?z+?x":                 done("+", done("-", done("+", x, y), z), x),
		"?x*?y/?z*?x":                 done("*", done("/", done("*", x, y), z), x),
		"?x+?y*?z":                    done("+", x, done("*", y, z)),
		"?x/?y-?z":                    done("-", done("/", x, y), z),
		"(?x+?y)*?z":                  done("*", done("+", x, y), z),
		"?x+?y<?x*?y":                 done("<", done("+", x, y), done("*", x, y)),
		"!?x":                         done("!", x),
		"!!?x":                        done("!", done("!", x)),
		"! ! ?x":                      done("!", done("!", x)),
		"-?x":                         done("neg", x),
		"--?x":                        done("neg", done("neg", x)),
		"-1":                          done("neg", n("1")),
		"- 1":                         done("neg", n("1")),
		"1--1":                        done("-", n("1"), done("neg", n("1"))),
		"1-1":                         done("-", n("1"), n("1")),
		"1 -1":                        done("-", n("1"), n("1")),
		"!-?x":                        done("!", done("neg", x)),
		"-!?x":                        done("neg", done("!", x)),
		"!?x=?y":                      done("=", done("!", x), y),
		"!(?x=?y)":                    done("!", done("=", x, y)),
		"-?x*?y":                      done("*", done("neg", x), y),
		"?x*-?y":                      done("*", x, done("neg", y)),
		"!?x&&!?y":                    done("&&", done("!", x), done("!", y)),
		"!BOUND(?x)":                  done("!", bound("x")),
		"?x!=!?y":                     done("!=", x, done("!", y)),
		"\"-1\"^^<" + term.XInt + ">": n("-1"),
		" \t\r\n?x\n":                 x,
	} {
		if got := parsedExpr(t, s); told(got) != told(want) {
			t.Errorf("P12.1: ParseExpr(%q): %s, want %s", s, told(got), told(want))
		}
		l := items(t, "FILTER("+s+")BIND("+s+" AS?k)")
		if told(l) != told([]syntax.Item{{Kind: syntax.Filter, Expr: want}, {Kind: syntax.Bind, Expr: want, Var: "k"}}) {
			t.Errorf("P12.1: %q in a group: %s, want %s", s, told(l), told(want))
		}
	}
}

func TestBlanks(t *testing.T) {
	const blanks = " \t\r\n"
	tight := "REGISTER ISTREAM<u:o>AS SELECT DISTINCT?x(COUNT(*)AS?n)FROM WINDOW<u:w>ON<u:s>[RANGE 10STEP 5BEGIN-2]NONEMPTY FROM WINDOW<u:v>ON<u:t>[RANGE 3STEP 3]WHERE{?x(<u:p>/^<u:q>)*|<u:r>~?y.FILTER(?y>1+2*-?z&&!BOUND(?a)||TRUE)OPTIONAL{?x?p\"a\"@en.}{}UNION{WINDOW<u:w>{1<u:p>_:b.}}BIND(?y-1 AS?k)}GROUP BY?x?y"
	wide := "REGISTER~ISTREAM~<u:o>~AS~SELECT~DISTINCT~?x~(~COUNT~(~*~)~AS~?n~)~FROM~WINDOW~<u:w>~ON~<u:s>~[~RANGE~10~STEP~5~BEGIN~-2~]~NONEMPTY~FROM~WINDOW~<u:v>~ON~<u:t>~[~RANGE~3~STEP~3~]~WHERE~{~?x~(~<u:p>~/~^~<u:q>~)~*~|~<u:r>~@~?y~.~FILTER~(~?y~>~1~+~2~*~-~?z~&&~!~BOUND~(~?a~)~||~TRUE~)~OPTIONAL~{~?x~?p~\"a\"#en~.~}~{~}~UNION~{~WINDOW~<u:w>~{~1~<u:p>~_:b~.~}~}~BIND~(~?y~-~1~AS~?k~)~}~GROUP~BY~?x~?y"
	want := told(parsed(t, tight))
	for _, between := range []string{" ", "\t", "\n", "\r", blanks, "    "} {
		s := strings.ReplaceAll(strings.ReplaceAll(strings.ReplaceAll(wide, "~", between), "@", "~"), "#", "@")
		for _, s := range []string{s, between + s, s + between, blanks + s + blanks} {
			if got := told(parsed(t, s)); got != want {
				t.Errorf("P12.1: Parse(%q): %s, want %s", s, got, want)
			}
		}
	}
	for _, s := range []string{"\v", "\f", "\u00a0", "\u0085", "\u2028", "\x00", "\ufeff"} { // no blanks
		if _, place, e := syntax.Parse(head + s + "{}"); place != len(head) || e != api.ErrForm {
			t.Errorf("P12.1: Parse of %q as a blank: %d, %d", s, place, e)
		}
	}
}

func TestVars(t *testing.T) {
	for _, name := range []string{"a", "Z", "a1", "a_", "x_y_Z09", "AS", "WHERE", strings.Repeat("v", 4000)} {
		q := parsed(t, "REGISTER RSTREAM <u:o> AS SELECT ?"+name+" WHERE {}GROUP BY ?"+name)
		if len(q.Select) != 1 || q.Select[0].Var != name || len(q.By) != 1 || q.By[0] != name {
			t.Errorf("P12.1: var %.20s: %.200s", name, told(q))
		}
	}
	if l := items(t, "?a?b?c."); told(l) != told([]syntax.Item{{S: v("a"), P: v("b"), O: v("c")}}) {
		t.Errorf("P12.1: vars without blanks: %s", told(l))
	}
}

// TestLength: as long as may be.
func TestLength(t *testing.T) {
	for _, s := range []string{
		head + "{}" + strings.Repeat(" ", api.MaxQuery-len(head)-2),
		strings.Repeat("\n", api.MaxQuery-len(head)-2) + head + "{}",
		head + "{FILTER(" + strings.Repeat("(", 4000) + "?x" + strings.Repeat(")", 4000) + ")}",
		head + "{?x" + strings.Repeat("(", 4000) + "<u:p>" + strings.Repeat(")", 4000) + "?y.}",
	} {
		if len(s) > api.MaxQuery {
			t.Fatal(len(s))
		}
		parsed(t, s)
	}
	parsedExpr(t, "?x"+strings.Repeat(" ", api.MaxQuery-2))
	long := "u:" + strings.Repeat("a", api.MaxText-2)
	if l := items(t, "?x<"+long+">?y."); l[0].Path.IRI != long {
		t.Error("P12.1: an IRI as long as may be")
	}
	noughts := strings.Repeat("0", api.MaxText-1) + "7"
	if l := items(t, "?x?p "+noughts+"."); told(l[0].O) != told(number(noughts)) {
		t.Error("P12.1: an int as long as a literal's text may be")
	}
	q := parsed(t, "REGISTER RSTREAM <u:o> AS SELECT ?x FROM WINDOW <u:w> ON <u:s> [RANGE "+strings.Repeat("0", 5000)+"7 STEP 1] WHERE {}")
	if q.Sources[0].Shape.Width != 7 {
		t.Errorf("P12.1: a range's noughts: %s", told(q.Sources))
	}
}
