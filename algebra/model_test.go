package algebra_test

import (
	"maps"
	"math/rand"
	"slices"
	"strconv"
	"strings"
	"testing"

	"beck/algebra"
	"beck/api"
	"beck/dict"
	"beck/expr"
	"beck/nfa"
	"beck/nt"
	"beck/syntax"
	"beck/term"
	"beck/value"
)

// The model takes the chapter's words one by one: a row is what its vars stand for, and there are no numbers.
type line map[string]term.Term

// together answers two rows joined, if they are compatible.
func together(a, b line) (line, bool) {
	out := maps.Clone(a)
	for v, x := range b {
		if y, ok := out[v]; ok && y != x {
			return nil, false
		}
		out[v] = x
	}
	return out, true
}

// model has the triples of the store, and of windows, as often as they are there.
type model struct {
	static  []nt.Triple
	windows map[string][]nt.Triple
	put     map[term.Term]int // what BINDs made
	many    bool              // a table had too many rows
}

func (m *model) bounded(rows []line) []line {
	if len(rows) > algebra.MaxRows {
		m.many = true
		return nil
	}
	return rows
}

// join joins each row with each, and, from the left, with none where there is none.
func (m *model) join(a, b []line, fromLeft bool) []line {
	var out []line
	for _, x := range a {
		found := false
		for _, y := range b {
			if both, ok := together(x, y); ok {
				out, found = append(out, both), true
			}
			if len(out) > algebra.MaxRows {
				m.many = true
				return nil
			}
		}
		if !found && fromLeft {
			out = append(out, x)
		}
	}
	return m.bounded(out)
}

// stand answers what nodes' vars stand for where terms are at their places.
func stand(nodes []syntax.Node, terms ...term.Term) (line, bool) {
	out := line{}
	for i, n := range nodes {
		if n.Var == "" && n.Term != terms[i] {
			return nil, false
		}
		if n.Var == "" {
			continue
		}
		if x, ok := out[n.Var]; ok && x != terms[i] {
			return nil, false
		}
		out[n.Var] = terms[i]
	}
	return out, true
}

type twoTerms struct{ from, to term.Term }

type twos map[twoTerms]int

// then answers the pairs that are made of one of each.
func (a twos) then(b twos) twos {
	out := twos{}
	for x := range a {
		for y := range b {
			if x.to == y.from {
				out[twoTerms{x.from, y.to}]++
			}
		}
	}
	return out
}

// pairsOf makes a path's pairs, kind by kind.
func pairsOf(p syntax.Path, l []nt.Triple) twos {
	out := twos{}
	var parts []twos
	for _, part := range p.Parts {
		parts = append(parts, pairsOf(part, l))
	}
	switch p.Kind {
	case nfa.Step, nfa.Back:
		for _, x := range l {
			if x.P != (term.IRI{Text: p.IRI}) {
				continue
			}
			if p.Kind == nfa.Step {
				out[twoTerms{x.S, x.O}]++
			} else {
				out[twoTerms{x.O, x.S}]++
			}
		}
		return out
	case nfa.Seq:
		out = parts[0]
		for _, part := range parts[1:] {
			out = out.then(part)
		}
		return out
	case nfa.Alt:
		for _, part := range parts {
			maps.Copy(out, part)
		}
		return out
	}
	if p.Kind != nfa.Plus {
		for _, x := range l {
			out[twoTerms{x.S, x.S}]++
			out[twoTerms{x.O, x.O}]++
		}
	}
	maps.Copy(out, parts[0])
	for many := -1; p.Kind != nfa.Opt && many != len(out); {
		many = len(out)
		maps.Copy(out, out.then(parts[0]))
	}
	return out
}

func (m *model) triple(x syntax.Item, l []nt.Triple) []line {
	var out []line
	if x.P.Var == "" && x.Path.Kind != nfa.Step {
		for pair := range pairsOf(x.Path, l) {
			if row, ok := stand([]syntax.Node{x.S, x.O}, pair.from, pair.to); ok {
				out = append(out, row)
			}
		}
		return m.bounded(out)
	}
	predicate := x.P
	if predicate.Var == "" {
		predicate.Term = term.IRI{Text: x.Path.IRI}
	}
	for _, y := range l {
		if row, ok := stand([]syntax.Node{x.S, predicate, x.O}, y.S, y.P, y.O); ok {
			out = append(out, row)
		}
	}
	return m.bounded(out)
}

func (m *model) bind(rows []line, x syntax.Item) []line {
	var out []line
	for _, row := range rows {
		row = maps.Clone(row)
		if y, code := expr.Eval(x.Expr, expr.Of(row)); code == api.OK {
			row[x.Var] = y
			m.put[y]++
		}
		out = append(out, row)
	}
	return out
}

func (m *model) groups(groups []syntax.Group, l []nt.Triple) []line {
	var out []line
	for _, g := range groups {
		out = append(out, m.group(g, l)...)
	}
	return m.bounded(out)
}

func (m *model) group(g syntax.Group, l []nt.Triple) []line {
	rows := []line{{}}
	for _, x := range g.Items {
		switch x.Kind {
		case syntax.Triple:
			rows = m.join(rows, m.triple(x, l), false)
		case syntax.Bind:
			rows = m.bind(rows, x)
		case syntax.Optional:
			rows = m.join(rows, m.groups(x.Groups, l), true)
		case syntax.Union:
			rows = m.join(rows, m.groups(x.Groups, l), false)
		case syntax.Window:
			rows = m.join(rows, m.groups(x.Groups, m.windows[x.IRI]), false)
		}
		if m.many {
			return nil
		}
	}
	return slices.DeleteFunc(rows, func(row line) bool {
		return slices.ContainsFunc(g.Items, func(x syntax.Item) bool {
			return x.Kind == syntax.Filter && expr.Truth(x.Expr, expr.Of(row)) != value.True
		})
	})
}

// lacks tells whether a WINDOW's content isn't there.
func (m *model) lacks(g syntax.Group) bool {
	return slices.ContainsFunc(g.Items, func(x syntax.Item) bool {
		_, there := m.windows[x.IRI]
		return x.Kind == syntax.Window && !there || slices.ContainsFunc(x.Groups, m.lacks)
	})
}

// toldLines writes rows as told does.
func toldLines(rows []line) string {
	var l []string
	for _, row := range rows {
		var parts []string
		for _, v := range slices.Sorted(maps.Keys(row)) {
			parts = append(parts, v+"="+short.Replace(nt.Text(row[v])))
		}
		l = append(l, "("+strings.Join(parts, " ")+")")
	}
	slices.Sort(l)
	return strings.Join(l, "")
}

// maker makes texts of groups at random, of few terms and vars, so that much of them goes together.
type maker struct {
	*rand.Rand
	binds int
}

func (m *maker) pick(l ...string) string { return l[m.Intn(len(l))] }

func (m *maker) node() string {
	if m.Intn(4) > 0 {
		return m.pick("?a", "?b", "?c", "?d", "?e")
	}
	return m.pick("<u:a>", "<u:b>", "<u:c>", "<u:a>", "<u:p>", "_:x", "1", "2", "01", "\"a\"", "<u:no>")
}

func (m *maker) path(deep int) string {
	atom := m.pick("<u:p>", "<u:q>", "<u:p>", "^<u:p>", "^<u:q>", "<u:r>")
	if deep > 1 && m.Intn(2) == 0 {
		atom = "(" + m.path(deep-1) + ")"
	}
	switch m.Intn(8) {
	case 0:
		return atom + "*"
	case 1:
		return atom + "+"
	case 2:
		return atom + "~"
	case 3:
		return atom + "/" + m.pick("<u:p>", "^<u:q>", "<u:p>*")
	case 4:
		return atom + "|" + m.pick("<u:q>", "^<u:p>", "<u:q>+")
	}
	return atom
}

func (m *maker) expr() string {
	x, y := m.pick("?a", "?b", "?c", "?d"), m.pick("?a", "?b", "?c", "1", "2", "<u:a>", "?z1")
	return m.pick(x, x+" = "+y, x+" != "+y, x+" != "+y, x+" < "+y, x+" + "+y, "BOUND("+x+")", "!BOUND("+x+") || "+x+" != "+y, "TRUE", x+" * 2 - "+y, "2 / "+x)
}

func (m *maker) item(deep int) string {
	kind := m.Intn(13)
	if deep == 1 {
		kind = m.Intn(8)
	}
	switch kind {
	default:
		return m.node() + " " + m.pick("<u:p>", "<u:q>", "?p", "?d", m.path(2), m.path(2), m.path(3)) + " " + m.node() + " ."
	case 6:
		return "FILTER(" + m.expr() + ")"
	case 7:
		m.binds++
		return "BIND(" + m.expr() + " AS ?z" + strconv.Itoa(m.binds) + ")"
	case 8:
		return "OPTIONAL " + m.group(deep-1)
	case 9, 10:
		l := []string{m.group(deep - 1)}
		for range m.Intn(3) {
			l = append(l, m.group(deep-1))
		}
		return strings.Join(l, " UNION ")
	case 11, 12:
		return "WINDOW " + m.pick("<u:v>", "<u:w>", "<u:v>", "<u:w>", "<u:v>", "<u:w>", "<u:e>", "<u:x>") + " " + m.group(deep-1)
	}
}

func (m *maker) group(deep int) string {
	l := []string{"{"}
	for range m.Intn(4) {
		l = append(l, m.item(deep))
	}
	return strings.Join(append(l, "}"), " ")
}

// triples makes some, each as often as it comes.
func (m *maker) triples(many int) []nt.Triple {
	var l []nt.Triple
	for range many {
		o := m.pick("<u:a>", "<u:b>", "<u:c>", "<u:p>", "_:x", "1", "2", "01", "\"a\"", "1")
		if len(o) < 3 {
			o = "\"" + o + "\"^^<" + term.XInt + ">"
		}
		x, _, _ := nt.Parse(m.pick("<u:a>", "<u:b>", "<u:c>", "<u:p>", "_:x") + " " + m.pick("<u:p>", "<u:q>", "<u:p>", "<u:a>") + " " + o + " .")
		l = append(l, x...)
	}
	return l
}

// built answers the model's data as the chapter's.
func (m *model) built(t *testing.T) builder {
	t.Helper()
	b := newBuilder(t, 1000)
	keysOf := func(l []nt.Triple) []dict.Key {
		var keys []dict.Key
		for _, x := range l {
			k, _ := b.Dict.Key(x)
			keys = append(keys, k)
		}
		return keys
	}
	b.static(keysOf(m.static)...)
	for _, name := range slices.Sorted(maps.Keys(m.windows)) {
		b.window(name, keysOf(m.windows[name])...)
	}
	return b
}

// TestModel holds what is answered against the model's answers, of groups of all kinds.
func TestModel(t *testing.T) {
	answers := map[string]int{}
	for seed := range 12000 {
		r := &maker{Rand: rand.New(rand.NewSource(int64(seed)))}
		m := &model{windows: map[string][]nt.Triple{"u:v": r.triples(r.Intn(7)), "u:w": r.triples(2 + r.Intn(8)), "u:e": nil}, put: map[term.Term]int{}}
		for _, x := range r.triples(r.Intn(16)) {
			if !slices.Contains(m.static, x) {
				m.static = append(m.static, x)
			}
		}
		b := m.built(t)
		group := r.group(1 + r.Intn(4))
		g := parsed(t, group)
		want := m.group(g, m.static)
		known := b.Dict.Len()
		x, code := b.eval(group)
		switch {
		case m.lacks(g):
			if code != api.ErrNone && (code != api.ErrMany || !m.many) {
				t.Fatalf("P16.1: %d: %s: %d, want ErrNone", seed, group, code)
			}
		case m.many:
			if code != api.ErrMany {
				t.Fatalf("P16.1: %d: %s: %d, want ErrMany", seed, group, code)
			}
		case code != api.OK || told(b.Dict, x) != toldLines(want):
			t.Fatalf("P16.1: %d: %s: %d, %s, want %s", seed, group, code, told(b.Dict, x), toldLines(want))
		}
		if code != api.OK {
			m.put = nil
		}
		m.samePut(t, b, known)
		answers[strconv.Itoa(int(code))+" of "+strconv.Itoa(min(len(x.Rows), 2))]++
	}
	for _, x := range []string{"0 of 0", "0 of 1", "0 of 2", "4 of 0"} {
		if answers[x] < 300 {
			t.Errorf("only %d answers %s: %v", answers[x], x, answers)
		}
	}
}

// samePut checks that the store is as it was, and that the dictionary has what it had, and what BINDs put.
func (m *model) samePut(t *testing.T, b builder, known int) {
	t.Helper()
	for n := known; n < b.Dict.Len(); n++ {
		if x, _ := b.Dict.Term(n); m.put[x] == 0 {
			t.Fatalf("P16.1: %s was put into the dictionary", nt.Text(x))
		}
	}
	for x := range m.put {
		if _, code := b.Dict.Find(x); code != api.OK {
			t.Fatalf("P16.1: %s wasn't put into the dictionary", nt.Text(x))
		}
	}
	if b.Store.Len() != len(m.static) {
		t.Fatalf("P16.1: the store has %d keys, want %d", b.Store.Len(), len(m.static))
	}
	for _, x := range m.static {
		if k, code := b.Dict.Key(x); code != api.OK || !b.Store.Has(k) {
			t.Fatalf("P16.1: the store lacks %s", x.Text())
		}
	}
}
