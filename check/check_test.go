package check_test

import (
	"reflect"
	"strconv"
	"strings"
	"testing"

	"beck/api"
	"beck/check"
	"beck/nfa"
	"beck/syntax"
	"beck/term"
	"beck/window"
)

// parsed reads a query of what stands behind SELECT.
func parsed(t *testing.T, s string) syntax.Query {
	t.Helper()
	q, place, e := syntax.Parse("REGISTER RSTREAM <u:o> AS SELECT " + s)
	if e != api.OK {
		t.Fatalf("%s: %d at %d", s, e, place)
	}
	return q
}

func window2(name, stream string) string {
	return "FROM WINDOW <" + name + "> ON <" + stream + "> [RANGE 3 STEP 2] "
}

type checked struct {
	text string
	want api.Errno
}

func areChecked(t *testing.T, streams []string, l []checked) {
	t.Helper()
	for _, c := range l {
		if e := check.Check(parsed(t, c.text), streams); e != c.want {
			t.Errorf("P13.1: Check(%s): %d, want %d", c.text, e, c.want)
		}
	}
}

// TestSources: of all sources the names come first, then all shapes, then all streams.
func TestSources(t *testing.T) {
	where := "WHERE { ?x <u:p> 1 . }"
	source := func(name, stream, width, rest string) string {
		return "FROM WINDOW <" + name + "> ON <" + stream + "> [RANGE " + width + " STEP 1" + rest + "] "
	}
	areChecked(t, []string{"u:t", "u:s", "u:t"}, []checked{
		{"?x " + where, api.OK},
		{"?x " + source("u:w", "u:s", "1", "") + where, api.OK},
		{"?x " + source("u:w", "u:s", "1", "") + source("u:v", "u:s", "1", "") + where, api.OK},
		{"?x " + source("u:s", "u:t", "1", "") + source("u:t", "u:s", "1", "") + where, api.OK},
		{"?x " + source("u:w", "u:s", "1", "") + source("u:v", "u:s", "1", "") + source("u:w", "u:t", "2", "") + where, api.ErrThere},
		{"?x " + source("u:w", "u:s", "0", "") + source("u:w", "u:z", "1", "") + where, api.ErrThere},
		{"?x " + source("u:w", "u:z", "1", "") + source("u:v", "u:s", "0", "") + where, api.ErrRange},
		{"?x " + source("u:w", "u:s", "1", "") + source("u:v", "u:z", "1", "") + where, api.ErrNone},
		{"?x " + source("u:w", "u:S", "1", "") + where, api.ErrNone},
		{"?x " + source("u:w", "u:s", "1099511627776", "") + where, api.OK},
		{"?x " + source("u:w", "u:s", "1099511627777", "") + where, api.ErrRange},
		{"?x " + source("u:w", "u:s", "1", " BEGIN -1099511627776") + where, api.OK},
		{"?x " + source("u:w", "u:s", "1", " BEGIN -1099511627777") + where, api.ErrRange},
		{"?x " + source("u:w", "u:s", "9", " BEGIN 1099511627777") + where, api.ErrRange},
		{"?x FROM WINDOW <u:w> ON <u:s> [RANGE 1 STEP 0] " + where, api.ErrRange},
		{"?z " + source("u:w", "u:z", "1", "") + "WHERE { 1 <u:p> ?x . }", api.ErrNone},
	})
	areChecked(t, nil, []checked{
		{"?x " + where, api.OK},
		{"?x " + source("u:w", "u:s", "1", "") + where, api.ErrNone},
		{"?x " + source("u:w", "u:s", "0", "") + where, api.ErrRange},
	})
}

func TestTriples(t *testing.T) {
	areChecked(t, nil, []checked{
		{"?x WHERE { ?x ?x ?x . }", api.OK},
		{"?x WHERE { <u:a> ?x 1 . }", api.OK},
		{"?x WHERE { _:a <u:p>* ?x . }", api.OK},
		{"?x WHERE { 1 ?x ?y . }", api.ErrTerm},
		{"?x WHERE { 007 <u:p> ?x . }", api.ErrTerm},
		{"?x WHERE { \"\" <u:p> ?x . }", api.ErrTerm},
		{"?x WHERE { \"a\"@en <u:p> ?x . }", api.ErrTerm},
		{"?x WHERE { \"a\"^^<u:t> <u:p> ?x . }", api.ErrTerm},
		{"?x WHERE { ?x <u:p> ?y . ?y <u:p> 1 . 2 <u:p> 1 . }", api.ErrTerm},
		{"?x WHERE { ?x " + strings.Repeat("<u:p>|", 198) + "<u:p> 1 . }", api.OK},
		{"?x WHERE { ?x " + strings.Repeat("<u:p>|", 199) + "<u:p> 1 . }", api.ErrMany},
		{"?x WHERE { ?x " + strings.Repeat("^<u:p>/", 198) + "<u:p>+ 1 . }", api.ErrMany},
		{"?x WHERE { 1 " + strings.Repeat("<u:p>|", 199) + "<u:p> ?x . }", api.ErrTerm},
		{"?x WHERE { ?x " + strings.Repeat("<u:p>|", 199) + "<u:p> 1 . 1 <u:p> 1 . }", api.ErrMany},
		{"?x WHERE { ?x " + strings.Repeat("<u:p>|", 150) + "<u:p> 1 . ?x " + strings.Repeat("<u:p>|", 150) + "<u:p> 1 . }", api.OK},
		{"?x WHERE { ?x " + strings.Repeat("(", 39) + "<u:p>" + strings.Repeat(")*", 39) + " 1 . }", api.OK},
	})
}

// TestPaths: a path that the grammar hasn't has chapter 10's error.
func TestPaths(t *testing.T) {
	deep := func(n int) syntax.Path {
		p := syntax.Path{IRI: "u:p"}
		for range n - 1 {
			p = syntax.Path{Kind: nfa.Star, Parts: []syntax.Path{p}}
		}
		return p
	}
	step := syntax.Path{IRI: "u:p"}
	for _, c := range []struct {
		p    syntax.Path
		want api.Errno
	}{
		{step, api.OK},
		{deep(40), api.OK},
		{deep(41), api.ErrDeep},
		{syntax.Path{Kind: nfa.Star}, api.ErrForm},
		{syntax.Path{Kind: nfa.Seq}, api.ErrForm},
		{syntax.Path{Kind: nfa.Seq, Parts: []syntax.Path{step}}, api.OK},
		{syntax.Path{Kind: nfa.Opt, Parts: []syntax.Path{step, step}}, api.ErrForm},
		{syntax.Path{Kind: nfa.Back, IRI: "u:p", Parts: []syntax.Path{step}}, api.ErrForm},
		{syntax.Path{Kind: 7, IRI: "u:p"}, api.ErrForm},
		{syntax.Path{Kind: -1, IRI: "u:p"}, api.ErrForm},
	} {
		x := syntax.Item{S: syntax.Node{Var: "x"}, Path: c.p, O: syntax.Node{Var: "y"}}
		q := syntax.Query{Select: []syntax.Select{{Var: "x"}}, Where: syntax.Group{Items: []syntax.Item{x}}}
		if e := check.Check(q, nil); e != c.want {
			t.Errorf("P13.1: Check of a path %+v: %d, want %d", c.p, e, c.want)
		}
		x.P.Var = "p"
		q.Where.Items[0] = x
		if e := check.Check(q, nil); e != api.OK {
			t.Errorf("P13.1: Check of a var beside a path: %d", e)
		}
	}
}

func TestFilters(t *testing.T) {
	areChecked(t, nil, []checked{
		{"?x WHERE { FILTER(?x = ?y) ?x <u:p> ?y . }", api.OK},
		{"?x WHERE { ?x <u:p> 1 . FILTER(TRUE) }", api.OK},
		{"?x WHERE { FILTER(BOUND(?z)) ?x <u:p> ?y . }", api.ErrScope},
		{"?x WHERE { FILTER(!(1 + -?x * 2 < ?z)) ?x <u:p> ?y . }", api.ErrScope},
		{"?x WHERE { FILTER(?z) ?x <u:p> ?y . BIND(1 AS ?z) }", api.OK},
		{"?x WHERE { FILTER(?z) ?x <u:p> ?y . OPTIONAL { { ?y ?z 1 . } } }", api.OK},
		{"?x WHERE { FILTER(?z) ?x <u:p> ?y . { } UNION { BIND(1 AS ?z) } }", api.OK},
		{"?x WHERE { ?x <u:p> ?y . { FILTER(?x) } }", api.ErrScope},
		{"?x WHERE { ?x <u:p> ?y . OPTIONAL { FILTER(?x) } }", api.ErrScope},
		{"?x WHERE { ?x <u:p> ?y . { ?z ?y 1 . } UNION { FILTER(?z) } }", api.ErrScope},
		{"?x WHERE { ?x <u:p> ?y . FILTER(?z) FILTER(BOUND(?z)) }", api.ErrScope},
		{"?x WHERE { ?x <u:p> ?y . BIND(?x AS ?k) { FILTER(?k) } }", api.ErrScope},
		{"?x WHERE { ?x <u:p> ?y . FILTER(?X) }", api.ErrScope},
	})
}

func TestBinds(t *testing.T) {
	areChecked(t, nil, []checked{
		{"?x WHERE { BIND(1 AS ?x) }", api.OK},
		{"?x ?y WHERE { BIND(1 AS ?x) BIND(?x + ?x AS ?y) }", api.OK},
		{"?x WHERE { BIND(?x AS ?x) }", api.ErrScope},
		{"?x WHERE { BIND(1 AS ?x) BIND(?x AS ?x) }", api.ErrThere},
		{"?x WHERE { ?x <u:p> 1 . BIND(?y AS ?x) }", api.ErrScope},
		{"?x WHERE { ?x <u:p> 1 . BIND(BOUND(?y) AS ?z) ?x <u:p> ?y . }", api.ErrScope},
		{"?x WHERE { BIND(1 AS ?x) ?x <u:p> 1 . }", api.OK},
		{"?x WHERE { FILTER(?x = 1) BIND(1 AS ?x) }", api.OK},
		{"?x WHERE { { ?x <u:p> 1 . } BIND(?x AS ?y) }", api.OK},
		{"?x WHERE { { ?x <u:p> 1 . } BIND(1 AS ?x) }", api.ErrThere},
		{"?x WHERE { OPTIONAL { { BIND(1 AS ?x) } } BIND(1 AS ?x) }", api.ErrThere},
		{"?x WHERE { { } UNION { ?y ?x 1 . } BIND(1 AS ?x) }", api.ErrThere},
		{"?x WHERE { ?x <u:p> 1 . { BIND(?x AS ?y) } }", api.ErrScope},
		{"?x WHERE { ?x <u:p> 1 . { BIND(1 AS ?x) } }", api.OK},
		{"?x WHERE { ?x <u:p> 1 . { BIND(1 AS ?x) } UNION { BIND(2 AS ?x) } }", api.OK},
		{"?x WHERE { { BIND(1 AS ?x) } { BIND(2 AS ?x) } }", api.OK},
		{"?x WHERE { ?x ?y <u:a> . BIND(1 AS ?y) }", api.ErrThere},
	})
}

func TestWindows(t *testing.T) {
	two := window2("u:w", "u:s") + window2("u:v", "u:s")
	areChecked(t, []string{"u:s"}, []checked{
		{"?x " + two + "WHERE { WINDOW <u:w> { ?x ?p 1 . } WINDOW <u:v> { ?x ?p 1 . } }", api.OK},
		{"?x " + two + "WHERE { WINDOW <u:w> { ?x ?p 1 . } { WINDOW <u:w> { ?x ?p 1 . } } }", api.OK},
		{"?x " + two + "WHERE { ?x ?p 1 . OPTIONAL { WINDOW <u:v> { } } }", api.OK},
		{"?x " + two + "WHERE { ?x ?p 1 . WINDOW <u:s> { } }", api.ErrNone},
		{"?x WHERE { ?x ?p 1 . WINDOW <u:w> { } }", api.ErrNone},
		{"?x " + two + "WHERE { ?x ?p 1 . WINDOW <u:w> { WINDOW <u:v> { } } }", api.ErrOrder},
		{"?x " + two + "WHERE { ?x ?p 1 . WINDOW <u:w> { WINDOW <u:w> { } } }", api.ErrOrder},
		{"?x " + two + "WHERE { ?x ?p 1 . WINDOW <u:w> { OPTIONAL { { } UNION { WINDOW <u:v> { } } } } }", api.ErrOrder},
		{"?x " + two + "WHERE { ?x ?p 1 . WINDOW <u:w> { WINDOW <u:z> { } } }", api.ErrNone},
		{"?x " + two + "WHERE { ?x ?p 1 . WINDOW <u:z> { 1 <u:p> 1 . } }", api.ErrNone},
		{"?x " + two + "WHERE { ?x ?p 1 . WINDOW <u:w> { WINDOW <u:v> { 1 <u:p> 1 . } } }", api.ErrOrder},
		{"?x " + two + "WHERE { ?x ?p 1 . WINDOW <u:w> { 1 <u:p> 1 . WINDOW <u:v> { } } }", api.ErrTerm},
	})
}

// TestOrder: of several faults the first one is told: that of the item ahead, an item's groups coming where it stands.
func TestOrder(t *testing.T) {
	term, scope, there, none, many := "1 <u:p> 1 . ", "FILTER(?z) ", "BIND(1 AS ?x) ", "WINDOW <u:z> { } ", "?x "+strings.Repeat("<u:p>|", 199)+"<u:p> 1 . "
	faults := map[string]api.Errno{term: api.ErrTerm, scope: api.ErrScope, there: api.ErrThere, none: api.ErrNone, many: api.ErrMany, "BIND(?z AS ?k) ": api.ErrScope}
	var l []checked
	for a, first := range faults {
		for b, then := range faults {
			l = append(l,
				checked{"?x WHERE { ?x <u:p> 1 . " + a + b + "}", first},
				checked{"?x WHERE { ?x <u:p> 1 . " + a + "{ ?x <u:p> 1 . " + b + "} }", first},
				checked{"?x WHERE { ?x <u:p> 1 . OPTIONAL { ?x <u:p> 1 . " + a + "} " + b + "}", first},
				checked{"?x WHERE { ?x <u:p> 1 . { ?x <u:p> 1 . " + a + "} UNION { ?x <u:p> 1 . " + b + "} }", first},
				checked{"?x WHERE { ?x <u:p> 1 . { { ?x <u:p> 1 . " + a + "} { } ?x <u:p> 1 . " + b + "} " + b + "}", first},
				checked{"?k ?x ?x (SUM(*) AS ?x) WHERE { ?x <u:p> 1 . " + b + "} GROUP BY ?k ?x ?x", then},
			)
		}
	}
	areChecked(t, nil, l)
}

func TestBy(t *testing.T) {
	where := " WHERE { ?x <u:p> ?y . FILTER(1 < 2) { BIND(1 AS ?b) } } GROUP BY "
	areChecked(t, nil, []checked{
		{"?x" + where + "?x", api.OK},
		{"?x ?b" + where + "?y ?b ?x", api.OK},
		{"?x" + where + "?x ?z", api.ErrScope},
		{"?x" + where + "?x ?y ?x", api.ErrThere},
		{"?x" + where + "?z ?x ?x", api.ErrScope},
		{"?x" + where + "?x ?x ?z", api.ErrThere},
		{"?x" + where + "?z ?z", api.ErrScope},
		{"?x ?x" + where + "?z", api.ErrScope},
		{"?x WHERE { ?x <u:p> 1 . FILTER(BOUND(?x)) } GROUP BY ?p", api.ErrScope},
	})
}

func TestSelections(t *testing.T) {
	where := " WHERE { ?x <u:p> ?y . OPTIONAL { ?y ?p ?o . } }"
	areChecked(t, nil, []checked{
		{"?x ?y ?p ?o" + where, api.OK},
		{"DISTINCT ?o ?x" + where, api.OK},
		{"?o ?z" + where, api.ErrScope},
		{"?x ?y ?x" + where, api.ErrThere},
		{"?x ?x ?z" + where, api.ErrThere},
		{"?x ?z ?z" + where, api.ErrScope},
		{"?x ?y" + where + " GROUP BY ?y ?x", api.OK},
		{"?x" + where + " GROUP BY ?y ?x", api.OK},
		{"?x ?o" + where + " GROUP BY ?y ?x", api.ErrScope},
		{"?x ?y ?x" + where + " GROUP BY ?y ?x", api.ErrThere},
		{"?x (MIN(?y) AS ?m)" + where + " GROUP BY ?x", api.OK},
		{"?x (MIN(?y) AS ?m)" + where, api.ErrScope},
		{"(MIN(?y) AS ?m) ?x" + where, api.ErrScope},
		{"(MIN(?y) AS ?m) (MAX(?y) AS ?n) (SUM(?x) AS ?k) (COUNT(?x) AS ?l) (COUNT(*) AS ?all)" + where, api.OK},
		{"(COUNT(*) AS ?m)" + where, api.OK},
		{"(MIN(*) AS ?m)" + where, api.ErrType},
		{"(MAX(*) AS ?m)" + where, api.ErrType},
		{"(SUM(*) AS ?m)" + where, api.ErrType},
		{"(SUM(*) AS ?x)" + where, api.ErrType},
		{"(COUNT(*) AS ?x)" + where, api.ErrThere},
		{"(COUNT(?z) AS ?m)" + where, api.ErrScope},
		{"(COUNT(?z) AS ?x)" + where, api.ErrScope},
		{"(COUNT(?x) AS ?x)" + where, api.ErrThere},
		{"(COUNT(?x) AS ?o)" + where + " GROUP BY ?x", api.ErrThere},
		{"(COUNT(*) AS ?m) (COUNT(?x) AS ?m)" + where, api.ErrThere},
		{"(COUNT(*) AS ?m) (SUM(*) AS ?m)" + where, api.ErrThere},
		{"(COUNT(*) AS ?m) (SUM(?m) AS ?n)" + where, api.ErrScope},
		{"(SUM(*) AS ?m) (COUNT(*) AS ?m)" + where, api.ErrType},
		{"?z (SUM(*) AS ?m)" + where, api.ErrScope},
		{"?m (COUNT(*) AS ?m)" + where, api.ErrScope},
		{"(COUNT(*) AS ?m) ?m" + where, api.ErrThere},
	})
}

func TestVars(t *testing.T) {
	for s, want := range map[string]string{
		"":                           "",
		"<u:a> <u:p> 1 .":            "",
		"?c ?a ?b .":                 "a b c",
		"?x <u:p> ?x . ?x <u:p> 1 .": "x",
		"?b <u:p>* ?B . ?b1 <u:p> ?b_ . ?ab <u:p> ?aB .":          "B aB ab b b1 b_",
		"FILTER(?x = ?y && BOUND(?z))":                            "",
		"BIND(?x AS ?y)":                                          "y",
		"OPTIONAL { ?a <u:p> 1 . { BIND(?c AS ?b) } }":            "a b",
		"{ ?b <u:p> 1 . } UNION { } UNION { <u:a> ?a ?b . }":      "a b",
		"WINDOW <u:w> { ?w <u:p> 1 . FILTER(?z) } ?a ?b 1 .":      "a b w",
		"{ { { { ?d ?p 1 . } } ?c ?p 1 . } ?b ?p 1 . } ?a ?p 1 .": "a b c d p",
	} {
		l := check.Vars(parsed(t, "?x WHERE { "+s+" }").Where)
		if got := strings.Join(l, " "); got != want {
			t.Errorf("P13.1: Vars(%s): %s, want %s", s, got, want)
		}
	}
}

func TestExprVars(t *testing.T) {
	for s, want := range map[string]string{
		"1":                          "",
		"TRUE || <u:a> = \"?x\"":     "",
		"?x":                         "x",
		"BOUND(?x)":                  "x",
		"!BOUND(?y) && -?b < ?y * 1": "b y",
		"?c - ?b - ?a - ?B || ?b":    "B a b c",
		"((?x)) / (1 + (2 + ?k))":    "k x",
	} {
		e, _, _ := syntax.ParseExpr(s)
		if got := strings.Join(check.ExprVars(e), " "); got != want {
			t.Errorf("P13.1: ExprVars(%s): %s, want %s", s, got, want)
		}
	}
}

func TestGroupedAndColumns(t *testing.T) {
	for _, c := range []struct {
		s       string
		grouped bool
		columns string
	}{
		{"?x WHERE { }", false, "x"},
		{"DISTINCT ?c ?a ?b WHERE { }", false, "c a b"},
		{"?b ?a ?b WHERE { }", false, "b a b"},
		{"?x WHERE { } GROUP BY ?y", true, "x"},
		{"(COUNT(*) AS ?n) WHERE { }", true, "n"},
		{"?z (SUM(?a) AS ?b) ?a WHERE { }", true, "z b a"},
		{"?x (SUM(?a) AS ?b) WHERE { } GROUP BY ?y ?z", true, "x b"},
	} {
		q := parsed(t, c.s)
		if got := check.Grouped(q); got != c.grouped {
			t.Errorf("P13.1: Grouped(%s): %v", c.s, got)
		}
		if got := strings.Join(check.Columns(q), " "); got != c.columns {
			t.Errorf("P13.1: Columns(%s): %s", c.s, got)
		}
	}
	if check.Grouped(syntax.Query{}) || len(check.Columns(syntax.Query{})) != 0 {
		t.Errorf("P13.1: of no query: %v %v", check.Grouped(syntax.Query{}), check.Columns(syntax.Query{}))
	}
}

func TestNumber(t *testing.T) {
	numbers := map[string]int{"u:a": 7, "u:b": 0, "u:c": -3}
	of := func(iri string) int {
		n, ok := numbers[iri]
		if !ok {
			t.Errorf("P13.1: Number asks for %q", iri)
		}
		return n
	}
	step := func(n int) nfa.Path { return nfa.Path{Kind: nfa.Step, N: n} }
	of2 := func(kind int, parts ...nfa.Path) nfa.Path { return nfa.Path{Kind: kind, Parts: parts} }
	for s, want := range map[string]nfa.Path{
		"<u:a>":                   step(7),
		"^<u:a>":                  {Kind: nfa.Back, N: 7},
		"<u:c>":                   step(-3),
		"<u:a>/<u:b>/<u:a>":       of2(nfa.Seq, step(7), step(0), step(7)),
		"<u:a>|^<u:a>":            of2(nfa.Alt, step(7), nfa.Path{Kind: nfa.Back, N: 7}),
		"(<u:a>|<u:b>)+/<u:a>~":   of2(nfa.Seq, of2(nfa.Plus, of2(nfa.Alt, step(7), step(0))), of2(nfa.Opt, step(7))),
		"((<u:b>/<u:a>)/<u:a>)* ": of2(nfa.Star, of2(nfa.Seq, of2(nfa.Seq, step(0), step(7)), step(7))),
	} {
		p := parsed(t, "?x WHERE { ?x "+s+" ?y . }").Where.Items[0].Path
		if got := check.Number(p, of); !reflect.DeepEqual(got, want) {
			t.Errorf("P13.1: Number(%s): %v, want %v", s, got, want)
		}
	}
	if got := check.Number(syntax.Path{IRI: "u:a"}, nil); !reflect.DeepEqual(got, nfa.Path{}) {
		t.Errorf("P13.1: Number by nothing: %v", got)
	}
}

// TestApart: what is handed in stays, and isn't kept.
func TestApart(t *testing.T) {
	text := "?z ?b (SUM(?y) AS ?s) " + window2("u:w", "u:s") + window2("u:a", "u:s") + "WHERE { ?z (<u:p>/<u:q>)* ?y . FILTER(?z = ?b || ?y) WINDOW <u:w> { ?b ?c 1 . BIND(?b AS ?a) } } GROUP BY ?z ?b"
	q := parsed(t, text)
	room := append(make([]string, 0, 8), "u:z", "u:s")
	streams := room[:1:8]
	p, group, e := q.Where.Items[0].Path, q.Where, q.Where.Items[1].Expr
	for range 2 {
		if got := check.Check(q, room); got != api.OK {
			t.Fatalf("P13.1: Check: %d", got)
		}
		if got := check.Check(q, streams); got != api.ErrNone {
			t.Fatalf("P13.1: Check: %d", got)
		}
		for _, l := range [][]string{check.Vars(group), check.ExprVars(e), check.Columns(q)} {
			for i := range l {
				l[i] = "changed"
			}
		}
		check.Number(p, func(string) int { return 1 }).Parts[0].Parts[0].N = 9
		if strings.Join(room[:8], " ") != "u:z u:s      " || !syntax.Same(q, parsed(t, text)) {
			t.Fatalf("P13.1: arguments are changed: %q, %v", room[:8], q)
		}
	}
	a, b := check.Number(p, func(string) int { return 1 }), check.Number(p, func(string) int { return 1 })
	a.Parts[0].Parts[0].N = 9
	if b.Parts[0].Parts[0].N != 1 {
		t.Errorf("P13.1: two answers share memory")
	}
}

// odd answers what no text is parsed to.
type odd struct{}

func (odd) Good() bool { panic("asked") }

// TestOddTrees: trees that no text has end nothing but the call.
func TestOddTrees(t *testing.T) {
	for kind := -1; kind < 8; kind++ {
		for _, x := range []term.Term{nil, odd{}, term.IRI{}, term.Blank{}, term.Literal{}} {
			node := syntax.Node{Term: x}
			g := syntax.Group{Items: []syntax.Item{{Kind: kind, S: node, P: node, O: node}, {Kind: kind, Groups: make([]syntax.Group, 2)}}}
			g.Items[0].Expr = syntax.Expr{Op: "no", Node: node, Parts: make([]syntax.Expr, 3)}
			for _, l := range [][]syntax.Select{nil, {{}}, {{Fold: "no"}}, {{Of: "*"}}} {
				check.Check(syntax.Query{Select: l, Where: g, By: []string{""}, Sources: make([]syntax.Source, 1)}, []string{""})
				check.Check(syntax.Query{Select: l, Where: g}, nil)
			}
			check.Vars(g)
			check.ExprVars(g.Items[0].Expr)
			check.Number(syntax.Path{Kind: kind, Parts: make([]syntax.Path, 2)}, func(string) int { return 1 })
		}
	}
	if e := check.Check(syntax.Query{}, nil); e != api.OK {
		t.Errorf("P13.1: Check of an empty tree: %d", e)
	}
}

// TestDeepTrees: as many parts as may be stand in one another.
func TestDeepTrees(t *testing.T) {
	const deep = 1 << 16
	g := syntax.Group{Items: []syntax.Item{{Kind: syntax.Bind, Expr: syntax.Expr{Node: syntax.Node{Var: "none"}}, Var: "x"}}}
	e := syntax.Expr{Node: syntax.Node{Var: "x"}}
	p := syntax.Path{IRI: "u:p"}
	for i := range deep - 1 {
		v := "v" + strconv.Itoa(i)
		g = syntax.Group{Items: []syntax.Item{
			{Kind: syntax.Filter, Expr: syntax.Expr{Node: syntax.Node{Var: "x"}}},
			{Kind: syntax.Optional, Groups: []syntax.Group{g}},
			{Kind: syntax.Bind, Expr: syntax.Expr{Node: syntax.Node{Var: "x"}}, Var: v},
		}}
		e = syntax.Expr{Op: "!", Parts: []syntax.Expr{e}}
		p = syntax.Path{Kind: nfa.Star, Parts: []syntax.Path{p}}
	}
	if got := check.Check(syntax.Query{Where: g}, nil); got != api.ErrScope {
		t.Errorf("P13.1: Check of deep groups: %d", got)
	}
	if n := len(check.Vars(g)); n != deep {
		t.Errorf("P13.1: Vars of deep groups: %d", n)
	}
	if l := check.ExprVars(e); len(l) != 1 || l[0] != "x" {
		t.Errorf("P13.1: ExprVars of a deep expression: %v", l)
	}
	if got := nfa.Check(check.Number(p, func(string) int { return 0 })); got != api.ErrDeep {
		t.Errorf("P13.1: Number of a deep path: %d", got)
	}
	g.Items[0] = syntax.Item{S: syntax.Node{Var: "x"}, Path: p}
	if got := check.Check(syntax.Query{Where: g}, nil); got != api.ErrDeep {
		t.Errorf("P13.1: Check of a deep path: %d", got)
	}
}

// TestShapes: a source's shape is one that package window finds good.
func TestShapes(t *testing.T) {
	for _, s := range []window.Shape{{}, {Width: 1}, {Slide: 1}, {Width: 1, Slide: 1}, {Width: -1, Slide: 1}, {Width: 1 << 40, Slide: 1<<40 + 1}, {Width: 1 << 40, Slide: 1 << 40, Begin: -1 << 40}, {Width: 1, Slide: 1, Begin: 1<<40 + 1}} {
		want := api.OK
		if !s.Good() {
			want = api.ErrRange
		}
		q := syntax.Query{Sources: []syntax.Source{{Name: "u:w", Stream: "u:s", Shape: s}}}
		if got := check.Check(q, []string{"u:s"}); got != want {
			t.Errorf("P13.1: Check of a shape %v: %d, want %d", s, got, want)
		}
	}
}
