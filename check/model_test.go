package check_test

import (
	"math/rand"
	"slices"
	"strings"
	"testing"

	"beck/api"
	"beck/check"
	"beck/nfa"
	"beck/syntax"
	"beck/term"
	"beck/window"
)

// placed is an item, and where it stands: the groups round it from the WHERE on, and of each how many items are ahead.
type placed struct {
	item  syntax.Item
	round []string
	nth   []int
	above []int // the kinds of the items round it
}

// flat lays a group's items out as they stand, each ahead of those of its groups.
func flat(g syntax.Group, at placed, name string) []placed {
	var l []placed
	for i, x := range g.Items {
		p := placed{x, append(slices.Clone(at.round), name), append(slices.Clone(at.nth), i), at.above}
		l = append(l, p)
		for k, inner := range x.Groups {
			next := p
			next.above = append(slices.Clone(p.above), x.Kind)
			l = append(l, flat(inner, next, name+"/"+string(rune('a'+i))+string(rune('a'+k)))...)
		}
	}
	return l
}

// makes tells whether an item makes something a var of its group.
func makes(x syntax.Item, v string) bool {
	switch x.Kind {
	case syntax.Triple:
		return x.S.Var == v || x.P.Var == v || x.O.Var == v
	case syntax.Bind:
		return x.Var == v
	}
	return false
}

// isVar tells whether one is a var of a group, of items of which fewer than so many are ahead in it.
func isVar(all []placed, group string, below int, v string) bool {
	return slices.ContainsFunc(all, func(p placed) bool {
		i := slices.Index(p.round, group)
		return i >= 0 && p.nth[i] < below && makes(p.item, v)
	})
}

// exprVars are those that stand in a printed expression (of which no literal has a "?").
func exprVars(e syntax.Expr) []string {
	var l []string
	for _, part := range strings.Fields(syntax.PrintExpr(e)) {
		if strings.HasPrefix(part, "?") {
			l = append(l, part[1:])
		}
	}
	slices.Sort(l)
	return slices.Compact(l)
}

const whole = 1 << 30

// itemFault is what the words tell of one item.
func itemFault(q syntax.Query, all []placed, p placed) api.Errno {
	x, here := p.item, len(p.round)-1
	below := whole
	if x.Kind == syntax.Bind {
		below = p.nth[here]
	}
	if x.Kind == syntax.Triple && x.S.Var == "" && term.Kind(x.S.Term) == 2 {
		return api.ErrTerm
	}
	if x.Kind == syntax.Triple && x.P.Var == "" && strings.Count(syntax.PrintPath(x.Path), "<") > 199 {
		return api.ErrMany // those that are made have but one path beside their steps
	}
	if x.Kind == syntax.Filter || x.Kind == syntax.Bind {
		for _, v := range exprVars(x.Expr) {
			if !isVar(all, p.round[here], below, v) {
				return api.ErrScope
			}
		}
	}
	if x.Kind == syntax.Bind && isVar(all, p.round[here], below, x.Var) {
		return api.ErrThere
	}
	if x.Kind == syntax.Window && !slices.ContainsFunc(q.Sources, func(s syntax.Source) bool { return s.Name == x.IRI }) {
		return api.ErrNone
	}
	if x.Kind == syntax.Window && slices.Contains(p.above, syntax.Window) {
		return api.ErrOrder
	}
	return api.OK
}

// fault is what the words tell of a query.
func fault(q syntax.Query, streams []string) api.Errno {
	for i, a := range q.Sources {
		for _, b := range q.Sources[:i] {
			if a.Name == b.Name {
				return api.ErrThere
			}
		}
	}
	for _, s := range q.Sources {
		if !s.Shape.Good() {
			return api.ErrRange
		}
	}
	for _, s := range q.Sources {
		if !slices.Contains(streams, s.Stream) {
			return api.ErrNone
		}
	}
	all := flat(q.Where, placed{}, "")
	for _, p := range all {
		if e := itemFault(q, all, p); e != api.OK {
			return e
		}
	}
	for i, v := range q.By {
		if !isVar(all, "", whole, v) {
			return api.ErrScope
		}
		if slices.Contains(q.By[:i], v) {
			return api.ErrThere
		}
	}
	for i, s := range q.Select {
		if slices.ContainsFunc(q.Select[:i], func(t syntax.Select) bool { return s.Var == t.Var }) {
			return api.ErrThere
		}
		if e := selectFault(q, all, s); e != api.OK {
			return e
		}
	}
	return api.OK
}

func selectFault(q syntax.Query, all []placed, s syntax.Select) api.Errno {
	here := isVar(all, "", whole, s.Var)
	fold := func(s syntax.Select) bool { return s.Fold != "" }
	switch {
	case !fold(s) && !here:
		return api.ErrScope
	case !fold(s) && (len(q.By) > 0 || slices.ContainsFunc(q.Select, fold)) && !slices.Contains(q.By, s.Var):
		return api.ErrScope
	case !fold(s):
		return api.OK
	case s.Of == "*" && s.Fold != "COUNT":
		return api.ErrType
	case s.Of != "*" && !isVar(all, "", whole, s.Of):
		return api.ErrScope
	case here:
		return api.ErrThere
	}
	return api.OK
}

// maker makes queries at random, many of which have a fault or none.
type maker struct{ *rand.Rand }

func (m maker) pick(l ...string) string { return l[m.Intn(len(l))] }

func (m maker) seldom() bool { return m.Intn(30) == 0 }

func (m maker) variable() string {
	if m.seldom() {
		return "z"
	}
	return m.pick("a", "b", "c", "x", "x", "y")
}

func (m maker) node() syntax.Node {
	if m.Intn(3) > 0 {
		return syntax.Node{Var: m.variable()}
	}
	return syntax.Node{Term: term.IRI{Text: "u:a"}}
}

func (m maker) expr(deep int) syntax.Expr {
	switch n := m.Intn(5); {
	case n < 2 || deep == 0:
		return syntax.Expr{Node: m.node()}
	case n == 2:
		return syntax.Expr{Op: "BOUND", Node: syntax.Node{Var: m.variable()}}
	case n == 3:
		return syntax.Expr{Op: m.pick("!", "neg"), Parts: []syntax.Expr{m.expr(deep - 1)}}
	}
	return syntax.Expr{Op: m.pick("||", "=", "+"), Parts: []syntax.Expr{m.expr(deep - 1), m.expr(deep - 1)}}
}

func (m maker) triple() syntax.Item {
	x := syntax.Item{S: m.node(), O: m.node()}
	if m.seldom() {
		x.S = syntax.Node{Term: term.Int(1)}
	}
	if m.Intn(3) == 0 {
		x.P.Var = m.variable()
		return x
	}
	x.Path = syntax.Path{IRI: "u:p"}
	if m.seldom() {
		n := 199 + m.Intn(2)
		x.Path = syntax.Path{Kind: nfa.Alt, Parts: slices.Repeat([]syntax.Path{x.Path}, n)}
	}
	return x
}

func (m maker) item(deep int) syntax.Item {
	x := syntax.Item{}
	switch n := m.Intn(8); {
	case n < 4 || deep == 0:
		return m.triple()
	case n == 4:
		x.Kind, x.Expr = syntax.Filter, m.expr(1)
		return x
	case n == 5:
		x.Kind, x.Expr, x.Var = syntax.Bind, m.expr(1), m.pick("a", "b", "c", "k", "l", "m", "n")
		return x
	case n == 6:
		x.Kind = syntax.Window
		if deep == 3 || m.Intn(5) == 0 {
			x.IRI = m.pick("u:w", "u:w", "u:v")
			break
		}
		x.Kind = syntax.Optional
	default:
		x.Kind = syntax.Union
		for range m.Intn(2) {
			x.Groups = append(x.Groups, m.group(deep-1))
		}
	}
	x.Groups = append(x.Groups, m.group(deep-1))
	return x
}

func (m maker) group(deep int) syntax.Group {
	var g syntax.Group
	for range m.Intn(5) {
		g.Items = append(g.Items, m.item(deep))
	}
	return g
}

func (m maker) source(name string) syntax.Source {
	s := syntax.Source{Name: name, Stream: m.pick("u:s", "u:t"), Shape: window.Shape{Width: 1 + m.Intn(9), Slide: 1 + m.Intn(9)}}
	switch {
	case m.seldom():
		s.Name = m.pick("u:w", "u:v")
	case m.seldom():
		s.Shape.Slide = 0
	case m.seldom():
		s.Stream = "u:r"
	}
	return s
}

func (m maker) query() syntax.Query {
	q := syntax.Query{Kind: "RSTREAM", IRI: "u:o", Where: m.group(3)}
	for _, name := range []string{"u:w", "u:v"} {
		if m.Intn(4) > 0 {
			q.Sources = append(q.Sources, m.source(name))
		}
	}
	l := check.Vars(q.Where)
	m.Shuffle(len(l), func(i, k int) { l[i], l[k] = l[k], l[i] })
	if m.Intn(3) == 0 {
		q.By = slices.Clone(l[:m.Intn(len(l)+1)])
	}
	for _, v := range l[:m.Intn(len(l)+1)] {
		if len(q.By) == 0 || slices.Contains(q.By, v) || m.seldom() {
			q.Select = append(q.Select, syntax.Select{Var: v})
		}
	}
	for m.Intn(3) == 0 || len(q.Select) == 0 {
		s := syntax.Select{Var: m.pick("k1", "k2", "k3", "k4"), Fold: m.pick("COUNT", "SUM", "MIN", "MAX"), Of: m.variable()}
		if m.seldom() {
			s.Var = m.variable()
		}
		if s.Fold == "COUNT" && m.Intn(2) == 0 || m.seldom() {
			s.Of = "*"
		}
		q.Select = append(q.Select, s)
	}
	if m.seldom() {
		q.By = append(q.By, m.variable())
	}
	if m.seldom() {
		q.Select = append(q.Select, syntax.Select{Var: m.variable()})
	}
	m.Shuffle(len(q.Select), func(i, k int) { q.Select[i], q.Select[k] = q.Select[k], q.Select[i] })
	return q
}

// TestModel holds the calls against the chapter's words, taken one by one of all items, laid out flat.
func TestModel(t *testing.T) {
	m := maker{rand.New(rand.NewSource(13))}
	many := map[api.Errno]int{}
	for range 40000 {
		q := m.query()
		want := fault(q, []string{"u:t", "u:s"})
		many[want]++
		if got := check.Check(q, []string{"u:t", "u:s"}); got != want {
			t.Fatalf("P13.1: Check(%s): %d, want %d", syntax.Print(q), got, want)
		}
		all := flat(q.Where, placed{}, "")
		for _, v := range []string{"a", "b", "c", "k", "l", "m", "n", "x", "y", "z", "k1"} {
			if got := slices.Contains(check.Vars(q.Where), v); got != isVar(all, "", whole, v) {
				t.Fatalf("P13.1: Vars of %s: %s: %v", syntax.Print(q), v, got)
			}
		}
		for _, p := range all {
			if p.item.Kind == syntax.Filter && !slices.Equal(check.ExprVars(p.item.Expr), exprVars(p.item.Expr)) {
				t.Fatalf("P13.1: ExprVars(%s): %v", syntax.PrintExpr(p.item.Expr), check.ExprVars(p.item.Expr))
			}
		}
		if p, _, e := syntax.Parse(syntax.Print(q)); e == api.OK && !syntax.Same(p, q) {
			t.Fatalf("%s is made as no text has it", syntax.Print(q))
		}
	}
	for _, e := range []api.Errno{api.OK, api.ErrRange, api.ErrTerm, api.ErrNone, api.ErrThere, api.ErrType, api.ErrScope, api.ErrMany, api.ErrOrder} {
		if many[e] < 200 {
			t.Errorf("only %d queries have %d", many[e], e)
		}
	}
}
