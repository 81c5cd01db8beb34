package syntax_test

import (
	"strings"
	"testing"

	"beck/api"
	"beck/nt"
	"beck/scan"
	"beck/syntax"
	"beck/term"
	"beck/value"
)

// grammar is the chapter's, a rule a line. (begin is the int of a BEGIN.)
const grammar = `
query  = REGISTER kind iri AS SELECT [ DISTINCT ] select { select } { source } WHERE group [ GROUP BY var { var } ]
kind   = RSTREAM | ISTREAM | DSTREAM
select = var | "(" fold "(" ( "*" | var ) ")" AS var ")"
fold   = COUNT | SUM | MIN | MAX
source = FROM WINDOW iri ON iri "[" RANGE int STEP int [ BEGIN begin ] "]" [ NONEMPTY | CHANGE ]
group  = "{" { item } "}"
item   = node ( var | path ) node "." | FILTER "(" expr ")" | BIND "(" expr AS var ")" | OPTIONAL group | group { UNION group } | WINDOW iri group
node   = var | term | number
path   = seq { "|" seq }
seq    = step { "/" step }
step   = atom [ "*" | "+" | "~" ]
atom   = iri | "^" iri | "(" path ")"
expr   = and { "||" and }
and    = test { "&&" test }
test   = sum [ ( "=" | "!=" | "<=" | ">=" | "<" | ">" ) sum ]
sum    = prod { ( "+" | "-" ) prod }
prod   = sign { ( "*" | "/" ) sign }
sign   = "!" sign | "-" sign | one
one    = var | term | number | TRUE | FALSE | BOUND "(" var ")" | "(" expr ")"
`

// model reads texts by the grammar, whatever may stand at a place: it tells at which places what is read may end, and of what can't be read the farthest place that was come to.
type model struct {
	*scan.Scanner
	rules map[string][]string
	place int
	code  api.Errno
}

// places is a set of places.
type places = map[int]int

// fails takes note of what can't stand at a place.
func (m *model) fails(place int, code api.Errno) {
	if place > m.place || place == m.place && code != api.ErrForm {
		m.place, m.code = place, code
	}
}

// ends are the places where what stands in words of the grammar may end, from a place on.
func (m *model) ends(words []string, from int) places {
	all := places{}
	for _, l := range split(words) {
		at := places{from: 1}
		for len(l) > 0 {
			first := part(l)
			next := places{}
			for place := range at {
				for end := range m.partEnds(first, place) {
					next[end] = 1
				}
			}
			at, l = next, l[len(first):]
		}
		for end := range at {
			all[end] = 1
		}
	}
	return all
}

// partEnds are the ends of one part: a word, or what stands between brackets.
func (m *model) partEnds(part []string, from int) places {
	inner := part[1 : len(part)-min(1, len(part)-1)]
	switch part[0] {
	case "(":
		return m.ends(inner, from)
	case "[":
		at := m.ends(inner, from)
		at[from] = 1
		return at
	case "{":
		all, at := places{from: 1}, []int{from}
		for len(at) > 0 {
			for end := range m.ends(inner, at[0]) {
				if all[end] == 0 {
					all[end] = 1
					at = append(at, end)
				}
			}
			at = at[1:]
		}
		return all
	}
	if rule, ok := m.rules[part[0]]; ok {
		return m.ends(rule, from)
	}
	m.Back(from)
	if place, code := m.token(part[0]); code != api.OK {
		m.fails(place, code)
		return nil
	}
	m.Blanks()
	return places{m.Place(): 1}
}

// split cuts a rule at its bars, those between brackets left alone.
func split(words []string) [][]string {
	l := [][]string{nil}
	for i := 0; i < len(words); {
		p := part(words[i:])
		i += len(p)
		if p[0] == "|" {
			l = append(l, nil)
		} else {
			l[len(l)-1] = append(l[len(l)-1], p...)
		}
	}
	return l
}

// part is the first word, or all to the bracket that closes.
func part(words []string) []string {
	deep := 0
	for i, w := range words {
		switch w {
		case "(", "[", "{":
			deep++
		case ")", "]", "}":
			deep--
		}
		if deep == 0 {
			return words[:i+1]
		}
	}
	panic(words)
}

// token reads what isn't told by a rule.
func (m *model) token(word string) (int, api.Errno) {
	from := m.Place()
	switch word {
	case "var":
		if !m.Is("?") || scan.Class(m.Peek()) != 1 {
			return m.Place(), api.ErrForm
		}
		for m.goesOn() {
			m.Next()
		}
	case "int", "begin", "number":
		sign := word == "begin" && m.Is("-")
		digits := m.Run(2)
		if digits == "" {
			return m.Place(), api.ErrForm
		}
		if sign {
			digits = "-" + digits
		}
		if _, e := value.Parse(digits); e != api.OK {
			return from, e
		}
	case "iri", "term":
		if word == "iri" && m.Peek() != '<' {
			return from, api.ErrForm
		}
		if _, place, e := nt.Read(m.Scanner); e != api.OK {
			return place, e
		}
	default:
		mark := strings.HasPrefix(word, `"`)
		if !m.Is(strings.Trim(word, `"`)) || !mark && m.goesOn() {
			return from, api.ErrForm
		}
	}
	return m.Place(), api.OK
}

func (m *model) goesOn() bool {
	class := scan.Class(m.Peek())
	return class == 1 || class == 2 || m.Peek() == '_'
}

func rules() map[string][]string {
	l := map[string][]string{}
	for _, line := range strings.Split(strings.TrimSpace(grammar), "\n") {
		name, rule, _ := strings.Cut(line, "=")
		l[strings.TrimSpace(name)] = strings.Fields(rule)
	}
	return l
}

// read tells whether a text is what a rule tells, or the place and the error.
func (m *model) read(s, rule string) (int, api.Errno) {
	x, place, e := scan.New(s)
	if e != api.OK {
		return place, e
	}
	m.Scanner, m.place, m.code = x, -1, api.OK
	m.Blanks()
	for end := range m.ends([]string{rule}, m.Place()) {
		if end == scan.Len(s) {
			return 0, api.OK
		}
		m.fails(end, api.ErrForm)
	}
	return m.place, m.code
}

// TestModel: what is parsed is just what the grammar has, and of all else the first error is told. (What is too deep doesn't come here.)
func TestModel(t *testing.T) {
	m, x := newMaker(4), &model{rules: rules()}
	more := []string{"?", "?x", "1", "-", "-1", "+", "<u:a>", "<a>", "<", "<=", "=", "!", "||", "|", "&&", "&", "(", ")", "{", "}", "[", "]", ".", "*", "/", "~", "^", "^^", "@en", "_:a", "_", `"a"`, `"`, "\\", "AS", "WHERE", "FILTER", "BIND", "UNION", "OPTIONAL", "WINDOW", "SELECT", "DISTINCT", "FROM", "TRUE", "BOUND", "GROUP", "BY", "COUNT", "a", "_", "é", "\x00", "99999999999999999999", " ", "\n", "#", ",", ";"}
	many := map[api.Errno]int{}
	try := func(s string) {
		if len(s) > api.MaxQuery {
			return
		}
		place, code := x.read(s, "query")
		q, at, e := syntax.Parse(s)
		many[e]++
		if at != place || e != code || e != api.OK && told(q) != told(syntax.Query{}) {
			t.Fatalf("P12.1: Parse(%q): %d, %d, want %d, %d", s, at, e, place, code)
		}
		if e == api.OK {
			isPrinted(t, q)
		}
	}
	for range 1500 {
		m.query()
		if len(m.parts) > 300 {
			continue
		}
		try(m.text(true))
		made := m.parts
		for range 6 { // parts that are left out, put in, put for others, or changed for one another
			m.parts = append([]string{}, made...)
			for range 1 + m.Intn(2) {
				i, k := m.Intn(len(m.parts)), m.Intn(len(m.parts))
				switch m.Intn(5) {
				case 0:
					m.parts = append(m.parts[:i], m.parts[i+1:]...)
				case 1:
					m.parts[i] = m.pick(more...)
				case 2:
					m.parts[i] += m.pick(more...)
				case 3:
					m.parts[i] = m.parts[k]
				case 4:
					m.parts[i], m.parts[k] = m.parts[k], m.parts[i]
				}
			}
			try(m.text(m.Intn(2) == 0))
		}
		for range 3 { // any one sign
			m.parts = made
			l := []rune(m.text(true))
			i := m.Intn(len(l) + 1)
			try(string(l[:i]) + m.pick(more...) + string(l[min(len(l), i+m.Intn(2)):]))
		}
	}
	for _, e := range []api.Errno{api.OK, api.ErrForm, api.ErrTerm, api.ErrOver} {
		if many[e] < 20 {
			t.Errorf("only %d texts came to %d", many[e], e)
		}
	}
}

// TestModelOfExpressions does the same of expressions.
func TestModelOfExpressions(t *testing.T) {
	m, x := newMaker(5), &model{rules: rules()}
	more := []string{"?x", "1", "-", "+", "<u:a>", "<a>", "<", "<=", ">", "=", "!=", "!", "||", "|", "&&", "&", "(", ")", "*", "/", "@en", "_:a", `"a"`, "TRUE", "FALSE", "BOUND", "AS", "99999999999999999999", " ", "é", "\"1\"^^<" + term.XInt + ">"}
	for range 30000 {
		m.parts = nil
		if m.Intn(2) == 0 {
			for range 1 + m.Intn(7) {
				m.write(m.pick(more...))
			}
		} else {
			m.expr(1+m.Intn(4), 0)
			m.parts[m.Intn(len(m.parts))] = m.pick(more...)
		}
		s := m.text(m.Intn(2) == 0)
		place, code := x.read(s, "expr")
		e, at, got := syntax.ParseExpr(s)
		if at != place || got != code || got != api.OK && told(e) != told(syntax.Expr{}) {
			t.Fatalf("P12.1: ParseExpr(%q): %d, %d, want %d, %d", s, at, got, place, code)
		}
		if got == api.OK {
			exprIsPrinted(t, e)
		}
	}
}
