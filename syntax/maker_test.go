package syntax_test

import (
	"math/rand"
	"regexp"
	"strconv"
	"strings"

	"beck/nfa"
	"beck/syntax"
	"beck/term"
	"beck/window"
)

// maker makes queries at random: trees, and the parts of texts of them, with parentheses and spellings as one likes.
type maker struct {
	*rand.Rand
	parts []string
}

func newMaker(seed int64) *maker { return &maker{Rand: rand.New(rand.NewSource(seed))} }

func (m *maker) write(parts ...string) { m.parts = append(m.parts, parts...) }

func (m *maker) pick(l ...string) string { return l[m.Intn(len(l))] }

// glued are two parts that would be read as one, or not as a word, if there were no blank between.
var glued = regexp.MustCompile(`^(\?\w+|[A-Z]+)~\w|^(_:[\w-]+|".*"@[\w-]+)~[\w-]|^\d+~\d`)

// text puts the parts together, with as few blanks as may be, or with any.
func (m *maker) text(few bool) string {
	var b strings.Builder
	if !few {
		b.WriteString(m.pick("", " ", "\n"))
	}
	for i, part := range m.parts {
		between := ""
		if !few {
			between = m.pick("", "", " ", " ", "\t", "\r\n", "  ")
		}
		if i > 0 && between == "" && glued.MatchString(strings.ReplaceAll(m.parts[i-1], "\n", "")+"~"+part) {
			between = m.pick(" ", "\t", "\r", "\n")
		}
		if i > 0 {
			b.WriteString(between)
		}
		b.WriteString(part)
	}
	if !few {
		b.WriteString(m.pick("", " ", "\n"))
	}
	return b.String()
}

func (m *maker) variable() string {
	name := m.pick("a", "b", "x", "y", "x1", "a_", "A_b_9", "AS", "WHERE")
	m.write("?" + name)
	return name
}

func (m *maker) iri() string {
	x := [][2]string{{"u:a", "<u:a>"}, {"u:b", "<u:b>"}, {"u:A", "<u:\\u0041>"}, {"é:#", "<é:#>"}, {"u:", "<u:>"}}[m.Intn(5)]
	m.write(x[1])
	return x[0]
}

// term makes one of any kind.
func (m *maker) term() term.Term {
	switch m.Intn(6) {
	case 0, 1:
		return term.IRI{Text: m.iri()}
	case 2:
		label := m.pick("a", "0", "a-", "b_-1", "Z9")
		m.write("_:" + label)
		return term.Blank{Label: label}
	}
	text := [][2]string{{"", `""`}, {"a", `"\u0061"`}, {"a b", `"a b"`}, {"\t\n\"\\é", `"\t\n\"\\é"`}, {"a\t\x01", "\"a\t\x01\""}, {"7", `"7"`}, {"-7", `"-7"`}, {"+7", `"+7"`}, {"true", `"true"`}, {"1", `"1"`}, {"99999999999999999999", `"99999999999999999999"`}, {"} .", `"} ."`}}[m.Intn(12)]
	switch m.Intn(4) {
	case 0:
		m.write(text[1])
		return term.Plain(text[0])
	case 1:
		lang := m.pick("en", "de-AT", "a-1")
		m.write(text[1] + "@" + lang)
		return term.Literal{Text: text[0], Type: term.XLang, Lang: lang}
	}
	kind := m.pick(term.XInt, term.XBool, term.XString, "u:t")
	m.write(text[1] + "^^<" + kind + ">")
	return term.Literal{Text: text[0], Type: kind}
}

func (m *maker) node() syntax.Node {
	switch m.Intn(4) {
	case 0, 1:
		return syntax.Node{Var: m.variable()}
	case 2:
		digits := m.pick("0", "1", "007", "42", "9223372036854775807")
		m.write(digits)
		return number(digits)
	}
	return syntax.Node{Term: m.term()}
}

// enclosed writes parentheses where they must stand, and now and then elsewhere.
func (m *maker) enclosed(must bool, write func()) {
	if must || m.Intn(8) == 0 {
		m.write("(")
		m.enclosed(false, write)
		m.write(")")
		return
	}
	write()
}

// path makes one: at a place of a path (0), of a seq (1), of a step (2), or of an atom (3).
func (m *maker) path(deep, place int) (p syntax.Path) {
	kind := m.Intn(2)
	if deep > 1 {
		kind = m.Intn(7)
	}
	rank := []int{3, 3, 1, 0, 2, 2, 2}[kind]
	m.enclosed(rank < place, func() {
		p = syntax.Path{Kind: kind}
		switch kind {
		case nfa.Step, nfa.Back:
			if kind == nfa.Back {
				m.write("^")
			}
			p.IRI = m.iri()
		case nfa.Seq, nfa.Alt:
			for i := range 2 + m.Intn(3) {
				if i > 0 {
					m.write([]string{"/", "|"}[kind-nfa.Seq])
				}
				p.Parts = append(p.Parts, m.path(deep-1, rank+1))
			}
		default:
			p.Parts = []syntax.Path{m.path(deep-1, 3)}
			m.write([]string{"*", "+", "~"}[kind-nfa.Star])
		}
	})
	return p
}

// operations, by their places' numbers: an or's, an and's, and so on.
var operations = [][]string{{"||"}, {"&&"}, {"=", "!=", "<=", ">=", "<", ">"}, {"+", "-"}, {"*", "/"}, {"!", "neg"}}

// expr makes one, at a place of an expr (0), an and (1), a test, a sum, a prod, a sign, or a one (6).
func (m *maker) expr(deep, place int) (e syntax.Expr) {
	rank := 6
	if deep > 1 {
		rank = m.Intn(7)
	}
	m.enclosed(rank < place, func() {
		if rank == 6 {
			e = m.one()
			return
		}
		e.Op = m.pick(operations[rank]...)
		switch rank {
		case 5:
			m.write(strings.ReplaceAll(e.Op, "neg", "-"))
			e.Parts = []syntax.Expr{m.expr(deep-1, 5)}
			return
		case 2:
			e.Parts = []syntax.Expr{m.expr(deep-1, 3)}
		default:
			e.Parts = []syntax.Expr{m.expr(deep-1, rank)}
		}
		m.write(e.Op)
		e.Parts = append(e.Parts, m.expr(deep-1, rank+1))
	})
	return e
}

func (m *maker) one() syntax.Expr {
	switch m.Intn(6) {
	case 0:
		m.write("BOUND", "(")
		defer m.write(")")
		return bound(m.variable())
	case 1:
		m.write("TRUE")
		return one(of(term.Bool(true)))
	case 2:
		m.write("FALSE")
		return one(of(term.Bool(false)))
	}
	return one(m.node())
}

func (m *maker) item(deep int) syntax.Item {
	x := syntax.Item{Kind: m.Intn(3)}
	if deep > 1 {
		x.Kind = m.Intn(6)
	}
	switch x.Kind {
	case syntax.Triple:
		x.S = m.node()
		if m.Intn(3) == 0 {
			x.P.Var = m.variable()
		} else {
			x.Path = m.path(1+m.Intn(4), 0)
		}
		x.O = m.node()
		m.write(".")
	case syntax.Filter:
		m.write("FILTER", "(")
		x.Expr = m.expr(1+m.Intn(5), 0)
		m.write(")")
	case syntax.Bind:
		m.write("BIND", "(")
		x.Expr = m.expr(1+m.Intn(4), 0)
		m.write("AS")
		x.Var = m.variable()
		m.write(")")
	case syntax.Optional:
		m.write("OPTIONAL")
		x.Groups = []syntax.Group{m.group(deep - 1)}
	case syntax.Union:
		x.Groups = []syntax.Group{m.group(deep - 1)}
		for range m.Intn(3) {
			m.write("UNION")
			x.Groups = append(x.Groups, m.group(deep-1))
		}
	case syntax.Window:
		m.write("WINDOW")
		x.IRI = m.iri()
		x.Groups = []syntax.Group{m.group(deep - 1)}
	}
	return x
}

func (m *maker) group(deep int) syntax.Group {
	var g syntax.Group
	m.write("{")
	for range m.Intn(4) {
		g.Items = append(g.Items, m.item(deep))
	}
	m.write("}")
	return g
}

func (m *maker) selection() syntax.Select {
	if m.Intn(2) == 0 {
		return syntax.Select{Var: m.variable()}
	}
	s := syntax.Select{Fold: m.pick("COUNT", "SUM", "MIN", "MAX"), Of: "*"}
	m.write("(", s.Fold, "(")
	if m.Intn(2) == 0 {
		m.write("*")
	} else {
		s.Of = m.variable()
	}
	m.write(")", "AS")
	s.Var = m.variable()
	m.write(")")
	return s
}

// number makes one of 64 bits, written with noughts ahead or without, and below 0 only where it may be.
func (m *maker) number(below bool) int {
	n := []int{0, 1, 10, 1 << 40, 1<<63 - 1, m.Int()}[m.Intn(6)]
	digits := m.pick("", "0", "000") + strconv.Itoa(n)
	if below && m.Intn(2) == 0 {
		m.write("-" + digits)
		return -n
	}
	m.write(digits)
	return n
}

func (m *maker) source() syntax.Source {
	var s syntax.Source
	m.write("FROM", "WINDOW")
	s.Name = m.iri()
	m.write("ON")
	s.Stream = m.iri()
	m.write("[", "RANGE")
	s.Shape.Width = m.number(false)
	m.write("STEP")
	s.Shape.Slide = m.number(false)
	if m.Intn(2) == 0 {
		m.write("BEGIN")
		s.Shape.Begin = m.number(true)
	}
	m.write("]")
	s.Policy = m.Intn(3)
	switch s.Policy {
	case window.NonEmpty:
		m.write("NONEMPTY")
	case window.Change:
		m.write("CHANGE")
	}
	return s
}

func (m *maker) query() syntax.Query {
	m.parts = nil
	q := syntax.Query{Kind: m.pick("RSTREAM", "ISTREAM", "DSTREAM")}
	m.write("REGISTER", q.Kind)
	q.IRI = m.iri()
	m.write("AS", "SELECT")
	if q.Distinct = m.Intn(2) == 0; q.Distinct {
		m.write("DISTINCT")
	}
	for range 1 + m.Intn(3) {
		q.Select = append(q.Select, m.selection())
	}
	for range m.Intn(3) {
		q.Sources = append(q.Sources, m.source())
	}
	m.write("WHERE")
	q.Where = m.group(1 + m.Intn(4))
	if m.Intn(2) == 0 {
		m.write("GROUP", "BY")
		for range 1 + m.Intn(3) {
			q.By = append(q.By, m.variable())
		}
	}
	return q
}
