package algebra_test

import (
	"slices"
	"strconv"
	"strings"
	"testing"

	"beck/algebra"
	"beck/api"
	"beck/bag"
	"beck/dict"
	"beck/syntax"
	"beck/term"
)

// number puts an IRI into the dictionary.
func (b builder) number(name string) int {
	b.Helper()
	n, code := b.Dict.Put(term.IRI{Text: "u:" + name})
	if code != api.OK {
		b.Fatalf("Put u:%s: %d", name, code)
	}
	return n
}

// edges answers many keys of one predicate, by which two nodes of each.
func (b builder) edges(predicate string, many int, of func(i int) (from, to int)) []dict.Key {
	b.Helper()
	p := b.number(predicate)
	var l []dict.Key
	for i := range many {
		from, to := of(i)
		l = append(l, dict.Key{b.number(strconv.Itoa(from)), p, b.number(strconv.Itoa(to))})
	}
	return l
}

// fan leads from one node to all others, chain from one to the next, apart from each to one of its own.
func fan(i int) (from, to int)   { return 0, i + 1 }
func chain(i int) (from, to int) { return i, i + 1 }
func apart(i int) (from, to int) { return 2 * i, 2*i + 1 }

// TestManyRows: a triple's table may have just so many rows, even if those that stay would be fewer.
func TestManyRows(t *testing.T) {
	b := newBuilder(t, api.MaxTerms)
	l := b.edges("p", algebra.MaxRows+1, fan)
	b.static(l[:algebra.MaxRows]...)
	b.many("{ ?x <u:p> ?y . }", algebra.MaxRows, api.OK)
	b.many("{ ?x ?p ?y . ?x <u:p> <u:7> . }", algebra.MaxRows, api.OK)
	b.many("{ ?x ?p ?y . OPTIONAL { ?x <u:q> ?z . } OPTIONAL { ?x <u:p> ?y . } }", algebra.MaxRows, api.OK)
	b.static(l[algebra.MaxRows])
	b.many("{ ?x <u:p> ?y . }", 0, api.ErrMany)
	b.many("{ ?x <u:p> ?y . FILTER(?y = <u:1>) }", 0, api.ErrMany)
	b.many("{ ?x <u:q> ?y . ?x <u:p> ?y . }", 0, api.ErrMany)
	b.many("{ OPTIONAL { ?x <u:p> ?y . } }", 0, api.ErrMany)
	b.many("{ ?x <u:p> <u:1> . }", 1, api.OK)
	b.many("{ <u:1> ^<u:p> ?x . }", 0, api.ErrMany) // of more edges than a path may have
	b.many("{ ?x <u:p> ?x . }", 0, api.OK)
}

// TestManyOften: rows count as often as they come.
func TestManyOften(t *testing.T) {
	b := newBuilder(t, 10)
	l := b.edges("p", 2, fan)
	b.Windows["u:w"] = []bag.Entry{{Key: l[0], Many: algebra.MaxRows - 1}, {Key: l[1], Many: 1}}
	b.Windows["u:v"] = []bag.Entry{{Key: l[0], Many: algebra.MaxRows - 1}, {Key: l[1], Many: 2}}
	b.Windows["u:u"] = []bag.Entry{{Key: l[0], Many: 1}, {Key: l[1], Many: 1<<63 - 1}}
	b.many("{ WINDOW <u:w> { ?x <u:p> ?y . } }", algebra.MaxRows, api.OK)
	b.many("{ WINDOW <u:w> { ?x <u:p>~ ?y . } }", 5, api.OK)
	b.many("{ WINDOW <u:v> { ?x <u:p> ?y . } }", 0, api.ErrMany)
	b.many("{ WINDOW <u:u> { ?x <u:p> ?y . } }", 0, api.ErrMany)
	b.many("{ WINDOW <u:u> { ?x <u:p> <u:1> . } }", 1, api.OK)
	b.many("{ WINDOW <u:u> { ?x ^<u:p> ?y . } }", 2, api.OK)
}

// TestManyJoined: two tables joined may have just so many rows, however many they would have.
func TestManyJoined(t *testing.T) {
	b := newBuilder(t, api.MaxTerms)
	b.static(b.edges("p", 200, fan)...)
	b.static(b.edges("q", 100, fan)...)
	b.static(b.edges("r", 101, fan)...)
	b.static(b.edges("all", algebra.MaxRows, fan)...)
	b.static(b.edges("three", 3, fan)...)
	b.static(b.edges("third", algebra.MaxRows/3+1, fan)...)
	b.many("{ ?a <u:three> ?b . ?c <u:third> ?d . }", 0, api.ErrMany)
	b.many("{ ?a <u:third> ?b . OPTIONAL { ?c <u:three> ?d . } }", 0, api.ErrMany)
	b.many("{ ?a <u:p> ?b . ?c <u:q> ?d . }", algebra.MaxRows, api.OK)
	b.many("{ ?a <u:p> ?b . ?a <u:q> ?d . }", algebra.MaxRows, api.OK)
	b.many("{ ?a <u:p> ?b . ?a <u:r> ?d . }", 0, api.ErrMany)
	b.many("{ ?a <u:p> ?b . ?a <u:r> ?d . FILTER(FALSE) }", 0, api.ErrMany)
	b.many("{ ?a <u:p> ?b . OPTIONAL { ?a <u:q> ?d . } }", algebra.MaxRows, api.OK)
	b.many("{ ?a <u:p> ?b . OPTIONAL { ?c <u:r> ?d . } }", 0, api.ErrMany)
	b.many("{ ?a <u:all> ?b . ?a <u:all> ?c . }", 0, api.ErrMany)
	b.many("{ ?a <u:all> ?b . OPTIONAL { ?c <u:all> ?d . } }", 0, api.ErrMany)
	b.many("{ ?a <u:all> ?b . OPTIONAL { ?d <u:all> ?b . } }", algebra.MaxRows, api.OK)
	b.many("{ ?a <u:all> ?b . ?b <u:all> ?c . }", 0, api.OK)
	b.many("{ ?a <u:all> ?b . OPTIONAL { ?b <u:all> ?c . } }", algebra.MaxRows, api.OK)
	b.many("{ ?a <u:p> ?b . ?a <u:r> ?d . ?a <u:unknown> ?c . }", 0, api.ErrMany)
	b.many("{ ?a <u:unknown> ?c . ?a <u:p> ?b . ?a <u:r> ?d . }", 0, api.OK)
}

// TestManyLeft: rows that come by themselves count, too.
func TestManyLeft(t *testing.T) {
	b := newBuilder(t, api.MaxTerms)
	b.static(b.edges("p", algebra.MaxRows-1, fan)...)
	b.static(b.edges("q", algebra.MaxRows, fan)...)
	one, r := b.number("1"), b.number("r")
	b.static(dict.Key{one, r, b.number("x")}, dict.Key{one, r, b.number("y")})
	b.many("{ ?a <u:p> ?b . OPTIONAL { ?b <u:r> ?c . } }", algebra.MaxRows, api.OK)
	b.many("{ ?a <u:q> ?b . OPTIONAL { ?b <u:r> ?c . } }", 0, api.ErrMany)
	b.many("{ ?a <u:q> ?b . ?b <u:r> ?c . }", 2, api.OK)
}

func TestManyInUnion(t *testing.T) {
	b := newBuilder(t, api.MaxTerms)
	b.static(b.edges("p", algebra.MaxRows/2, fan)...)
	b.static(b.edges("q", 1, fan)...)
	b.many("{ { ?a <u:p> ?b . } UNION { ?b <u:p> ?c . } }", algebra.MaxRows, api.OK)
	b.many("{ { ?a <u:p> ?b . } UNION { ?b <u:p> ?c . } UNION { ?a <u:q> ?b . } }", 0, api.ErrMany)
	b.many("{ ?a <u:unknown> ?b . { ?a <u:p> ?b . } UNION { ?b <u:p> ?c . } UNION { ?a <u:q> ?b . } }", 0, api.ErrMany)
	b.many("{ { ?a <u:p> ?b . FILTER(?b = <u:1>) } UNION { ?b <u:p> ?c . } UNION { ?a <u:p> ?b . FILTER(?b != <u:1>) } }", algebra.MaxRows, api.OK)
}

// TestManyEdges: a path may have just so many edges: all of the store, or of the window, once each, be their predicates in it or not.
func TestManyEdges(t *testing.T) {
	const maxEdges = 10000
	b := newBuilder(t, api.MaxTerms)
	l := b.edges("p", maxEdges+1, fan)
	l[0][1] = b.number("other")
	b.static(l[:maxEdges]...)
	b.window("u:w", l[5], l[5], l[6])
	b.Windows["u:all"] = []bag.Entry{}
	for _, k := range l[:maxEdges] {
		b.Windows["u:all"] = append(b.Windows["u:all"], bag.Entry{Key: k, Many: 3})
	}
	b.Windows["u:more"] = append(slices.Clone(b.Windows["u:all"]), bag.Entry{Key: l[maxEdges], Many: 1})
	for _, in := range []string{"{ %s }", "{ WINDOW <u:all> { %s } }"} {
		b.many(strings.ReplaceAll(in, "%s", "?x <u:p>+ ?y ."), maxEdges-1, api.OK)
		b.many(strings.ReplaceAll(in, "%s", "?x <u:other>+ ?y ."), 1, api.OK)
		b.many(strings.ReplaceAll(in, "%s", "?x <u:unknown>~ ?y ."), maxEdges+1, api.OK)
		b.many(strings.ReplaceAll(in, "%s", "?x ^<u:p>/<u:p> <u:5> ."), maxEdges-1, api.OK)
		b.many(strings.ReplaceAll(in, "%s", "?x ^<u:p>/<u:p> ?y ."), 0, api.ErrMany)
	}
	b.static(l[maxEdges])
	for _, in := range []string{"{ %s }", "{ WINDOW <u:more> { %s } }"} {
		b.many(strings.ReplaceAll(in, "%s", "?x <u:p>+ ?y ."), 0, api.ErrMany)
		b.many(strings.ReplaceAll(in, "%s", "?x <u:unknown>+ ?y ."), 0, api.ErrMany)
		b.many(strings.ReplaceAll(in, "%s", "<u:none> <u:p>+ ?y ."), 0, api.ErrMany)
	}
	b.many("{ ?x <u:p> ?y . }", maxEdges, api.OK)
	b.many("{ WINDOW <u:more> { ?x <u:p> <u:7> . } }", 3, api.OK)
	b.many("{ WINDOW <u:w> { ?x <u:p>+ ?y . } }", 2, api.OK)
}

// TestManyPairs: a path may have far more pairs than a table has rows, if most of them fit nothing.
func TestManyPairs(t *testing.T) {
	b := newBuilder(t, api.MaxTerms)
	b.static(b.edges("p", 3000, chain)...)
	b.many("{ ?x <u:p>+ ?y . }", 0, api.ErrMany)
	b.many("{ ?x <u:p>* ?x . }", 3001, api.OK)
	b.many("{ ?x <u:p>+ ?x . }", 0, api.OK)
	b.many("{ <u:0> <u:p>+ ?x . }", 3000, api.OK)
	b.many("{ ?x <u:p>+ <u:3000> . }", 3000, api.OK)
	b.many("{ ?x <u:p>+ <u:0> . }", 0, api.OK)
	b.many("{ <u:10> <u:p>+ <u:2000> . }", 1, api.OK)
	b.many("{ <u:10> <u:p>+ <u:9> . }", 0, api.OK)
	b.is("{ ?x <u:p>/<u:p>/<u:p> <u:3> . }", "(x=0)")
	b.is("{ ?x (<u:p>/<u:p>)~ <u:3> . }", "(x=1)(x=3)")
}

// TestApartPairs: as many nodes as there may be.
func TestApartPairs(t *testing.T) {
	b := newBuilder(t, api.MaxTerms)
	b.static(b.edges("p", 10000, apart)...)
	b.many("{ ?x <u:p>+ ?y . }", 10000, api.OK)
	b.many("{ ?x <u:unknown>* ?y . }", 20000, api.OK)
	b.many("{ ?x <u:p>* ?y . }", 0, api.ErrMany)
	b.many("{ ?x <u:p>|^<u:p> ?y . }", 20000, api.OK)
}

// TestManyParts: a path that may not be has chapter 10's error.
func TestManyParts(t *testing.T) {
	b := people(t)
	path := func(many int) string { return strings.Repeat("<u:k>|", many-1) + "<u:k>" }
	for many, want := range map[int]api.Errno{199: api.OK, 200: api.ErrMany} {
		for _, ends := range [][2]string{{"?x", "?y"}, {"<u:a>", "?y"}, {"?x", "<u:b>"}, {"<u:a>", "<u:b>"}} {
			if _, code := b.eval("{ " + ends[0] + " " + path(many) + " " + ends[1] + " . }"); code != want {
				t.Errorf("P16.1: of a path of %d parts: %d, want %d", many, code, want)
			}
		}
	}
}

// TestErrNone: a WINDOW whose content isn't there is an error wherever it stands.
func TestErrNone(t *testing.T) {
	b := people(t)
	for _, group := range []string{
		"{ WINDOW <u:no> { } }",
		"{ ?x <u:unknown> ?y . WINDOW <u:no> { ?x ?p ?y . } }",
		"{ OPTIONAL { WINDOW <u:no> { } } }",
		"{ { } UNION { WINDOW <u:no> { } } }",
		"{ WINDOW <u:w> { WINDOW <u:no> { } } }",
		"{ FILTER(FALSE) WINDOW <u:no> { } }",
	} {
		b.many(group, 0, api.ErrNone)
	}
}

// TestErrFull: values for which there is no room are an error; others aren't.
func TestErrFull(t *testing.T) {
	b := newBuilder(t, 5)
	b.static(b.keys("<u:a> <u:p> <u:b> .\n<u:b> <u:p> <u:a> .")...) // of three terms
	b.many("{ BIND(1 AS ?x) BIND(2 AS ?y) BIND(3 AS ?z) }", 0, api.ErrFull)
	b.many("{ OPTIONAL { BIND(1 AS ?x) BIND(2 AS ?y) BIND(3 AS ?z) } FILTER(FALSE) }", 0, api.ErrFull)
	b.many("{ ?x <u:p> ?y . BIND(?x AS ?z) }", 2, api.OK)
	b.many("{ BIND(1 AS ?x) BIND(2 AS ?y) BIND(1 / 0 AS ?z) }", 1, api.OK)
	if b.Dict.Len() != 5 {
		t.Fatalf("P16.1: %d terms", b.Dict.Len())
	}
	b.many("{ BIND(2 AS ?x) BIND(1 AS ?y) BIND(<u:p> AS ?z) }", 1, api.OK)
	b.many("{ BIND(3 AS ?x) }", 0, api.ErrFull)
	b.many("{ { BIND(3 AS ?x) } UNION { BIND(1 AS ?x) } }", 0, api.ErrFull)
	b.many("{ { BIND(2 AS ?x) } UNION { BIND(1 AS ?x) } BIND(?x + 1 AS ?y) }", 0, api.ErrFull)
	b.many("{ { BIND(1 AS ?x) } UNION { BIND(2 AS ?x) } BIND(?x + 1 AS ?y) }", 0, api.ErrFull)
	b.many("{ ?x <u:unknown> ?y . BIND(3 AS ?z) }", 0, api.OK)
	b.many("{ ?x <u:p> ?y . FILTER(3 < 4) FILTER(?x = <u:c> || 4 < 5) }", 2, api.OK)
}

// TestErrorsLeaveAll: behind an error the dictionary has what it had (R4).
func TestErrorsLeaveAll(t *testing.T) {
	b := newBuilder(t, 400)
	b.static(b.edges("p", 200, fan)...)
	known := b.Dict.Len()
	for group, want := range map[string]api.Errno{
		"{ BIND(7 AS ?a) WINDOW <u:no> { } }":                              api.ErrNone,
		"{ OPTIONAL { BIND(7 AS ?a) } { } UNION { WINDOW <u:no> { } } }":   api.ErrNone,
		"{ BIND(7 AS ?a) ?x <u:p> ?y . ?z <u:p> ?u . }":                    api.ErrMany,
		"{ ?x <u:p> ?y . BIND(?x = ?y AS ?a) OPTIONAL { ?x <u:p> ?u . } }": api.ErrMany,
		"{ BIND(7 AS ?a) OPTIONAL { " + manyBinds(300) + " } }":            api.ErrFull,
	} {
		b.many(group, 0, want)
		if b.Dict.Len() != known {
			t.Errorf("R4: %s: %d terms behind an error, want %d", group, b.Dict.Len(), known)
		}
		if n, code := b.Dict.Find(term.Int(7)); code != api.ErrNone {
			t.Errorf("R4: %s: 7 has number %d", group, n)
		}
	}
	b.many("{ BIND(7 AS ?a) ?x <u:p> ?y . }", 200, api.OK)
	if b.Dict.Len() != known+1 {
		t.Errorf("P16.1: %d terms, want %d", b.Dict.Len(), known+1)
	}
}

// manyBinds answers the text of BINDs of as many values.
func manyBinds(many int) string {
	var b strings.Builder
	for i := range many {
		n := strconv.Itoa(i + 100)
		b.WriteString("BIND(" + n + " AS ?v" + n + ")")
	}
	return b.String()
}

// TestDeep: groups as deep as a text may have them, and deeper.
func TestDeep(t *testing.T) {
	b := people(t)
	g := parsed(t, "{ ?x <u:o> 2 . }")
	for range 1 << 16 {
		g = syntax.Group{Items: []syntax.Item{{Kind: syntax.Union, Groups: []syntax.Group{g}}}}
	}
	if x, code := algebra.Eval(g, b.Data); told(b.Dict, x) != "(x=c)" || code != api.OK {
		t.Errorf("P8: of deep groups: %s, %d", told(b.Dict, x), code)
	}
}

// TestManyItems: groups of as many items as a text may have.
func TestManyItems(t *testing.T) {
	b := newBuilder(t, api.MaxTerms)
	b.static(b.edges("p", 2000, apart)...)
	var group strings.Builder
	group.WriteString("{")
	for i := range 400 {
		group.WriteString(" ?x <u:p> ?v" + strconv.Itoa(i) + " .")
	}
	group.WriteString("}")
	b.many(group.String(), 2000, api.OK)
}
