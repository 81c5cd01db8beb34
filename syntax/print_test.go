package syntax_test

import (
	"strings"
	"testing"

	"beck/api"
	"beck/nfa"
	"beck/syntax"
	"beck/term"
	"beck/window"
)

// The tests of this file are P12.2's: what is parsed is printed so that it is parsed again as it was; and Same's.

// isPrinted checks that a tree that was parsed is printed as a text of it, and answers that.
func isPrinted(t *testing.T, q syntax.Query) string {
	t.Helper()
	text := syntax.Print(q)
	back, place, e := syntax.Parse(text)
	if len(text) <= api.MaxQuery && (e != api.OK || place != 0 || told(back) != told(q) || !syntax.Same(back, q) || !syntax.Same(q, back)) {
		t.Fatalf("P12.2: %s is printed as %.3000s: %s, %d, %d", told(q), text, told(back), place, e)
	}
	return text
}

func exprIsPrinted(t *testing.T, x syntax.Expr) {
	t.Helper()
	text := syntax.PrintExpr(x)
	back, place, e := syntax.ParseExpr(text)
	if len(text) <= api.MaxQuery && (e != api.OK || place != 0 || told(back) != told(x)) {
		t.Fatalf("P12.2: %s is printed as %.3000s: %s, %d, %d", told(x), text, told(back), place, e)
	}
}

func pathIsPrinted(t *testing.T, p syntax.Path) {
	t.Helper()
	text := syntax.PrintPath(p)
	q, place, e := syntax.Parse(head + "{?x" + text + "?y.}")
	if len(text) <= api.MaxQuery && (e != api.OK || place != 0 || len(q.Where.Items) != 1 || told(q.Where.Items[0].Path) != told(p)) {
		t.Fatalf("P12.2: %s is printed as %.3000s: %s, %d, %d", told(p), text, told(q), place, e)
	}
}

// TestMade: whatever is made is parsed as it was made, with any blanks and any parentheses, and is printed so.
func TestMade(t *testing.T) {
	m := newMaker(1)
	for range 2500 {
		want := m.query()
		for _, few := range []bool{true, false} {
			s := m.text(few)
			if len(s) > api.MaxQuery {
				continue
			}
			got := parsed(t, s)
			if told(got) != told(want) || !syntax.Same(got, want) {
				t.Fatalf("P12.1: Parse(%q): %s, want %s", s, told(got), told(want))
			}
			isPrinted(t, got)
		}
	}
}

func TestMadeExpressions(t *testing.T) {
	m := newMaker(2)
	for range 10000 {
		m.parts = nil
		want := m.expr(1+m.Intn(7), 0)
		s := m.text(m.Intn(2) == 0)
		if len(s) > api.MaxQuery {
			continue
		}
		got := parsedExpr(t, s)
		if told(got) != told(want) {
			t.Fatalf("P12.1: ParseExpr(%q): %s, want %s", s, told(got), told(want))
		}
		exprIsPrinted(t, got)
	}
}

func TestMadePaths(t *testing.T) {
	m := newMaker(3)
	for range 10000 {
		m.parts = nil
		want := m.path(1+m.Intn(6), 0)
		s := head + "{ ?x" + m.text(m.Intn(2) == 0) + "?y . }"
		if len(s) > api.MaxQuery {
			continue
		}
		got := parsed(t, s).Where.Items[0].Path
		if told(got) != told(want) {
			t.Fatalf("P12.1: Parse(%q): %s, want %s", s, told(got), told(want))
		}
		pathIsPrinted(t, got)
	}
}

// TestPrinted has what may be mistaken when it is printed.
func TestPrinted(t *testing.T) {
	for _, s := range []string{
		"1", "007", "-1", "-007", "--1", "- -1", "1--1", "1-(-1)", "-(1-1)", "-(-1*2)", "(-1)*2",
		`"1"^^<` + term.XInt + ">", `"-1"^^<` + term.XInt + ">", `"+1"^^<` + term.XInt + ">", `""^^<` + term.XInt + ">", `"1 "^^<` + term.XInt + ">", `"x"^^<` + term.XInt + ">", `"१"^^<` + term.XInt + ">",
		`"9223372036854775807"^^<` + term.XInt + ">", `"9223372036854775808"^^<` + term.XInt + ">", `"-9223372036854775808"^^<` + term.XInt + ">", `"000099999999999999999999"^^<` + term.XInt + ">",
		"-9223372036854775807", `"1"`, `"1"@en`, `"1"^^<u:t>`,
		"TRUE", "FALSE", `"true"^^<` + term.XBool + ">", `"1"^^<` + term.XBool + ">", `"TRUE"^^<` + term.XBool + ">", `"true"`, `"true"@en`, "?TRUE", "_:TRUE",
		"_:a - 1", "_:a- - 1", "_:a-1", `"a"@en - 1`, `"a"@en-1`, "?x - 1", "<u:a> - 1", "_:a < <u:a>", "?x < <u:a>", "?x <= <u:a>", "<u:a> > <u:b>",
		"!(?x = ?y)", "!?x = ?y", "(?x = ?y) = ?z", "?x = (?y = ?z)", "(?x < ?y) = (?y < ?z)", "?x - (?y - ?z)", "?x - ?y - ?z", "?x / (?y * ?z)", "(?x || ?y) && ?z", "?x || (?y || ?z)", "?x && (?y && ?z)", "(?x && ?y) || ?z", "!(?x || ?y)", "-(?x + ?y)", "!BOUND(?x)", "BOUND(?x) = TRUE",
		"\"\\\\\\\"\\t\\n\\r\\u0001\\u0085\x02é😀\"",
	} {
		x := parsedExpr(t, s)
		exprIsPrinted(t, x)
		isPrinted(t, parsed(t, head+"{ FILTER("+s+") BIND("+s+" AS ?k) }"))
	}
	for _, s := range []string{"<u:p>", "^<u:p>", "^<u:p>*", "(<u:p>*)*", "((<u:p>+)~)*", "(<u:a>/<u:b>)/<u:c>", "<u:a>/(<u:b>/<u:c>)", "<u:a>/<u:b>/<u:c>", "(<u:a>|<u:b>)|<u:c>", "<u:a>|<u:b>/<u:c>", "(<u:a>|<u:b>)/<u:c>", "(<u:a>|<u:b>)*|<u:c>", "(<u:a>/<u:b>)+/<u:c>"} {
		pathIsPrinted(t, parsed(t, head+"{ ?x "+s+" ?y . }").Where.Items[0].Path)
	}
	for _, s := range []string{
		"", "1 ?p \"2\"^^<" + term.XInt + "> .", "\"true\"^^<" + term.XBool + "> ?p \"false\"^^<" + term.XBool + "> .", "\"a\" ^<u:p> \"b\"@en .", "_:a ?p _:b-.", "1<u:p>+1.",
		"{}", "{} {}", "{} UNION {} {}", "{ {} UNION {} }", "OPTIONAL {} {}", "OPTIONAL { {} }", "WINDOW <u:w> {} WINDOW <u:w> { ?x ?y ?z . }", "OPTIONAL { OPTIONAL {} } OPTIONAL {}",
	} {
		isPrinted(t, parsed(t, head+"{"+s+"}"))
	}
	for _, s := range []string{"", "BEGIN 0", "BEGIN -0", "BEGIN 007", "BEGIN -9223372036854775808", "BEGIN 9223372036854775807"} {
		for _, policy := range []string{"", "NONEMPTY", "CHANGE"} {
			isPrinted(t, parsed(t, "REGISTER RSTREAM <u:o> AS SELECT ?x FROM WINDOW <u:w> ON <u:s> [RANGE 0 STEP 9223372036854775807 "+s+"]"+policy+" WHERE {}"))
		}
	}
}

// TestPrintedDeep: as deep as may be.
func TestPrintedDeep(t *testing.T) {
	const deep = api.MaxDeep - 1
	left, right := strings.Repeat, strings.Repeat
	for _, s := range []string{
		left("!", deep) + "1", left("-", deep) + "1", left("1-", deep) + "1", left("1-(", deep) + "1" + right(")", deep), left("(", deep) + "1" + right("<2)", deep), left("!(1=", deep/2) + "1" + right(")", deep/2),
	} {
		exprIsPrinted(t, parsedExpr(t, s))
	}
	isPrinted(t, parsed(t, head+left("{", deep+1)+right("}", deep+1)))
	isPrinted(t, parsed(t, head+"{ ?x "+left("(", deep)+"<u:p>"+right(")*", deep)+" ?y . }"))
}

// TestDense: a text into which no blank more would go is printed so that it can be parsed again.
func TestDense(t *testing.T) {
	for _, piece := range []string{"?x<u:p>1.", "FILTER(1-1)", "FILTER(!-?x)", "{}", "BIND(1AS?x)", "BIND(?x AS?x)", "BIND(_:a AS?x)", "FILTER(_:a -1=_:b)", `FILTER("a"@en -1="b"@de)`, `FILTER("a"-1="b")`, "OPTIONAL{}", "?x?p _:a.", "?x?p 1.", "1?p<u:x>.", `"a"^<u:p>"b".`, "_:a(<u:p>|<u:q>)*/<u:r>_:b.", "WINDOW<u:w>{}", "{}UNION{}", "FILTER(TRUE&&FALSE||BOUND(?x))"} {
		room := api.MaxQuery - len(head) - 2
		s := head + "{" + strings.Repeat(piece, room/len(piece)) + "}"
		if text := isPrinted(t, parsed(t, s)); len(text) > len(s) {
			t.Errorf("P12.2: %s, often, is printed by %d bytes, not %d", piece, len(text), len(s))
		}
	}
	selections := strings.Repeat("?x(COUNT(*)AS?y)", 500)
	isDense := func(s string) {
		t.Helper()
		if text := isPrinted(t, parsed(t, s)); len(text) > api.MaxQuery {
			t.Errorf("P12.2: %.100s is printed by %d bytes", s, len(text))
		}
	}
	isDense("REGISTER RSTREAM<u:o>AS SELECT DISTINCT" + selections + "WHERE{}")
	isDense("REGISTER RSTREAM<u:o>AS SELECT?x WHERE{}GROUP BY" + strings.Repeat("?x", 4060))
	isDense("REGISTER RSTREAM<u:o>AS SELECT?x " + strings.Repeat("FROM WINDOW<u:w>ON<u:s>[RANGE 1STEP 1BEGIN-2]CHANGE FROM WINDOW<u:w>ON<u:s>[RANGE 1STEP 1BEGIN 2]", 80) + "WHERE{}")
	dense := "?x" + strings.Repeat("(", 100) + "<u:p>" + strings.Repeat("/<u:p>|<u:p>", 600) + strings.Repeat(")", 100)
	isDense(head + "{" + dense + "?y.}")
	if x := parsedExpr(t, strings.Repeat("1*1=1||", 36)+`"`+strings.Repeat("a", 4000)+"\"=\""+strings.Repeat("b", 3900)+`"`); len(syntax.PrintExpr(x)) > api.MaxQuery {
		t.Error("P12.2: a dense expression is too long when it is printed")
	} else {
		exprIsPrinted(t, x)
	}
}

// TestPrintedTooLong: a text that would be too long is still told whole.
func TestPrintedTooLong(t *testing.T) {
	x := parsedExpr(t, `"`+strings.Repeat("\x01", api.MaxText)+`"`)
	if text := syntax.PrintExpr(x); text != `"`+strings.Repeat(`\u0001`, api.MaxText)+`"` {
		t.Errorf("P12.2: %.100s", text)
	}
}

// TestSame: two trees are the same just where nothing in them isn't.
func TestSame(t *testing.T) {
	node := func(change func(n *syntax.Node)) func(q *syntax.Query) {
		return func(q *syntax.Query) { change(&q.Where.Items[0].S) }
	}
	make := func() syntax.Query {
		return syntax.Query{
			Kind: "RSTREAM", IRI: "u:o", Distinct: true,
			Select:  []syntax.Select{{Var: "x"}, {Var: "n", Fold: "COUNT", Of: "*"}},
			Sources: []syntax.Source{{Name: "u:w", Stream: "u:s", Shape: window.Shape{Width: 2, Slide: 1, Begin: 0}, Policy: window.Change}},
			Where: syntax.Group{Items: []syntax.Item{
				{S: of(term.Literal{Text: "a", Type: "u:t"}), Path: path(nfa.Seq, step("u:a"), step("u:b")), O: v("y")},
				{S: v("x"), P: v("p"), O: v("y")},
				{Kind: syntax.Bind, Expr: done("+", one(v("x")), one(number("1"))), Var: "z"},
				{Kind: syntax.Window, IRI: "u:w", Groups: []syntax.Group{group("a")}},
			}},
			By: []string{"x", "y"},
		}
	}
	for i, change := range []func(q *syntax.Query){
		func(q *syntax.Query) { q.Kind = "ISTREAM" },
		func(q *syntax.Query) { q.IRI = "u:O" },
		func(q *syntax.Query) { q.Distinct = false },
		func(q *syntax.Query) { q.Select = q.Select[:1] },
		func(q *syntax.Query) { q.Select = nil },
		func(q *syntax.Query) { q.Select[0].Var = "y" },
		func(q *syntax.Query) { q.Select[1].Fold = "SUM" },
		func(q *syntax.Query) { q.Select[1].Of = "x" },
		func(q *syntax.Query) { q.Select[0], q.Select[1] = q.Select[1], q.Select[0] },
		func(q *syntax.Query) { q.Sources = nil },
		func(q *syntax.Query) { q.Sources = append(q.Sources, q.Sources[0]) },
		func(q *syntax.Query) { q.Sources[0].Name = "u:v" },
		func(q *syntax.Query) { q.Sources[0].Stream = "u:v" },
		func(q *syntax.Query) { q.Sources[0].Shape.Width++ },
		func(q *syntax.Query) { q.Sources[0].Shape.Slide++ },
		func(q *syntax.Query) { q.Sources[0].Shape.Begin-- },
		func(q *syntax.Query) { q.Sources[0].Policy = window.Close },
		func(q *syntax.Query) { q.By = q.By[:1] },
		func(q *syntax.Query) { q.By = nil },
		func(q *syntax.Query) { q.By[1] = "x" },
		func(q *syntax.Query) { q.Where.Items = nil },
		func(q *syntax.Query) { q.Where.Items = q.Where.Items[:3] },
		func(q *syntax.Query) { q.Where.Items = append(q.Where.Items, syntax.Item{}) },
		func(q *syntax.Query) { q.Where.Items[3].Kind = syntax.Optional },
		func(q *syntax.Query) { q.Where.Items[3].IRI = "u:v" },
		func(q *syntax.Query) { q.Where.Items[3].Groups = nil },
		func(q *syntax.Query) { q.Where.Items[3].Groups = append(q.Where.Items[3].Groups, syntax.Group{}) },
		func(q *syntax.Query) { q.Where.Items[3].Groups[0] = group("b") },
		func(q *syntax.Query) { q.Where.Items[3].Groups[0].Items[0].O = syntax.Node{} },
		func(q *syntax.Query) { q.Where.Items[2].Var = "y" },
		func(q *syntax.Query) { q.Where.Items[2].Expr.Op = "-" },
		func(q *syntax.Query) { q.Where.Items[2].Expr.Parts = q.Where.Items[2].Expr.Parts[:1] },
		func(q *syntax.Query) { q.Where.Items[2].Expr.Parts[0] = one(v("y")) },
		func(q *syntax.Query) { q.Where.Items[2].Expr.Parts[1] = one(number("01")) },
		func(q *syntax.Query) { q.Where.Items[2].Expr.Node = v("x") },
		func(q *syntax.Query) { q.Where.Items[1].P = v("q") },
		func(q *syntax.Query) { q.Where.Items[1].P = iri("p") },
		func(q *syntax.Query) { q.Where.Items[1].O = v("x") },
		func(q *syntax.Query) { q.Where.Items[0].Path.Kind = nfa.Alt },
		func(q *syntax.Query) { q.Where.Items[0].Path.IRI = "u:a" },
		func(q *syntax.Query) { q.Where.Items[0].Path.Parts[1] = step("u:c") },
		func(q *syntax.Query) { q.Where.Items[0].Path.Parts = q.Where.Items[0].Path.Parts[:1] },
		node(func(n *syntax.Node) { n.Var = "a" }),
		node(func(n *syntax.Node) { n.Term = nil }),
		node(func(n *syntax.Node) { n.Term = term.Plain("a") }),
		node(func(n *syntax.Node) { n.Term = term.Literal{Text: "b", Type: "u:t"} }),
		node(func(n *syntax.Node) { n.Term = term.IRI{Text: "a"} }),
		node(func(n *syntax.Node) { n.Term = term.Blank{Label: "a"} }),
		node(func(n *syntax.Node) { n.Term = term.Literal{Text: "a", Type: "u:t", Lang: "en"} }),
	} {
		a, b := make(), make()
		if !syntax.Same(a, b) || !syntax.Same(b, a) || !syntax.Same(a, a) {
			t.Fatal("P12.2: Same of what is the same")
		}
		change(&b)
		if syntax.Same(a, b) || syntax.Same(b, a) || !syntax.Same(b, b) {
			t.Errorf("P12.2: Same of what isn't the same: %d", i)
		}
	}
	// Lists that are empty are the same, be they nil or not.
	empty := syntax.Query{Select: []syntax.Select{}, Sources: []syntax.Source{}, By: []string{}, Where: syntax.Group{Items: []syntax.Item{}}}
	if !syntax.Same(empty, syntax.Query{}) || !syntax.Same(syntax.Query{}, empty) {
		t.Error("P12.2: Same of empty lists")
	}
	a, b := make(), make()
	a.Where.Items[0].Path.Parts[0].Parts, a.Where.Items[2].Expr.Parts[0].Parts, a.Where.Items[1].Groups = []syntax.Path{}, []syntax.Expr{}, []syntax.Group{}
	if !syntax.Same(a, b) || !syntax.Same(b, a) {
		t.Error("P12.2: Same of empty lists within")
	}
}

type stranger []int

func (stranger) Good() bool { panic("asked") }

// TestAnyTrees: no call panics, whatever a tree has (P8).
func TestAnyTrees(t *testing.T) {
	var noIRI *term.IRI
	terms := []term.Term{nil, stranger{1}, noIRI, &term.IRI{Text: "u:a"}, term.IRI{}, term.Blank{}, term.Literal{}, term.Literal{Type: term.XInt}, term.Literal{Text: "\xff", Type: term.XInt, Lang: "en"}}
	names := []string{"", "x", "*", "\xff", "||", "=", "neg", "!", "BOUND", "-", "RSTREAM"}
	for i, x := range terms {
		for k, name := range names {
			n := syntax.Node{Var: names[(k+1)%len(names)], Term: x}
			for many := range 4 {
				var e syntax.Expr
				p := syntax.Path{Kind: k - 2, IRI: name}
				g := syntax.Group{}
				for range many {
					e = syntax.Expr{Op: name, Node: n, Parts: []syntax.Expr{e, {Node: n}, {Op: "<", Parts: []syntax.Expr{e}}}[:many-1]}
					p = syntax.Path{Kind: k - 2, IRI: name, Parts: []syntax.Path{p, {Kind: i}, p}[:many-1]}
					g = syntax.Group{Items: []syntax.Item{{Kind: k - 2, S: n, P: n, O: n, Path: p, Expr: e, Var: name, IRI: name, Groups: []syntax.Group{g, g, {}}[:many-1]}}}
				}
				q := syntax.Query{Kind: name, IRI: name, Select: []syntax.Select{{Var: name, Fold: name, Of: name}}, Sources: []syntax.Source{{Name: name, Stream: name, Shape: window.Shape{Width: -i, Begin: -1 << 63}, Policy: k - 2}}, Where: g, By: []string{name}}
				syntax.Print(q)
				syntax.PrintExpr(e)
				syntax.PrintPath(p)
				syntax.Same(q, q)
				syntax.Same(q, syntax.Query{Where: g})
			}
		}
	}
	p, e, g := step("u:p"), one(v("x")), syntax.Group{}
	for range 1 << 16 {
		p = path(nfa.Star, p)
		e = done("!", e)
		g = syntax.Group{Items: []syntax.Item{{Kind: syntax.Union, Groups: []syntax.Group{g}}}}
	}
	q := syntax.Query{Where: syntax.Group{Items: []syntax.Item{{Path: p}, {Kind: syntax.Filter, Expr: e}, {Kind: syntax.Optional, Groups: []syntax.Group{g}}}}}
	if syntax.Print(q) == "" || !syntax.Same(q, q) {
		t.Error("P12.2: what is nested much")
	}
}

// TestApart: what one answer has another one doesn't share, and a tree that is handed in stays.
func TestApart(t *testing.T) {
	const s = "REGISTER RSTREAM <u:o> AS SELECT ?x ?y FROM WINDOW <u:w> ON <u:s> [RANGE 1 STEP 1] WHERE { ?x <u:a>/<u:b> ?y . FILTER(?x + 1 + 2) {} UNION {} } GROUP BY ?x ?y"
	a, b := parsed(t, s), parsed(t, s)
	want := told(b)
	syntax.Print(a)
	syntax.Same(a, b)
	if told(a) != want {
		t.Error("P12.2: a tree that is printed is changed")
	}
	a.Select[0].Var, a.By[1], a.Sources[0].Name = "z", "z", "u:z"
	a.Where.Items[0].Path.Parts[0].IRI = "u:z"
	a.Where.Items[1].Expr.Parts[0].Parts[0].Node.Var = "z"
	a.Where.Items[2].Groups[1].Items = append(a.Where.Items[2].Groups[1].Items, syntax.Item{})
	a.Where.Items[0].Kind = syntax.Bind
	_ = append(a.Where.Items[2].Groups[:1], group("z"))
	if told(b) != want || told(parsed(t, s)) != want {
		t.Error("P12.2: two answers share a list")
	}
}
