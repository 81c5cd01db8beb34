package syntax

import "beck/term"

// expression reads one that isn't too deep.
func (p *parser) expression() Expr { return shallow(p, p.expr) }

func (p *parser) expr() Expr { return p.chain(p.and, "||") }

func (p *parser) and() Expr { return p.chain(p.test, "&&") }

func (p *parser) test() Expr {
	e := p.sum()
	if op := p.oneOf("=", "!=", "<=", ">=", "<", ">"); op != "" {
		return Expr{Op: op, Parts: []Expr{e, p.sum()}}
	}
	return e
}

func (p *parser) sum() Expr { return p.chain(p.prod, "+", "-") }

func (p *parser) prod() Expr { return p.chain(p.sign, "*", "/") }

// chain reads parts with marks between: the first ones belong together first.
func (p *parser) chain(part func() Expr, marks ...string) Expr {
	e := part()
	for {
		op := p.oneOf(marks...)
		if op == "" {
			return e
		}
		e = Expr{Op: op, Parts: []Expr{e, part()}}
	}
}

func (p *parser) sign() Expr {
	switch {
	case p.has("!"):
		return Expr{Op: "!", Parts: []Expr{p.sign()}}
	case p.has("-"):
		return Expr{Op: "neg", Parts: []Expr{p.sign()}}
	}
	return p.one()
}

func (p *parser) one() Expr {
	switch {
	case p.Peek() == '(':
		return enclosed(p, p.expr)
	case p.has("BOUND"):
		return Expr{Op: "BOUND", Node: Node{Var: enclosed(p, p.variable)}}
	case p.has("TRUE"):
		return Expr{Node: Node{Term: term.Bool(true)}}
	case p.has("FALSE"):
		return Expr{Node: Node{Term: term.Bool(false)}}
	}
	return Expr{Node: p.node()}
}

// The ranks of expressions: what has a lower one than may stand at a place stands there in parentheses.
const (
	orRank = iota
	andRank
	testRank
	sumRank
	prodRank
	signRank
	oneRank
)

func (w *printer) expr(e Expr, least int) {
	rank := exprRank(e.Op)
	if rank < least {
		w.add("(")
		w.expr(e, orRank)
		w.add(")")
		return
	}
	switch rank {
	case oneRank:
		w.one(e)
	case signRank:
		w.add(signText(e.Op))
		for _, part := range e.Parts {
			w.expr(part, signRank)
		}
	default:
		w.chain(e, rank)
	}
}

// chain writes parts with marks between. The first one may be of that rank itself, but of a test, which doesn't go on.
func (w *printer) chain(e Expr, rank int) {
	for i, part := range e.Parts {
		if i == 0 && rank != testRank {
			w.expr(part, rank)
			continue
		}
		if i > 0 {
			w.add(e.Op)
		}
		w.expr(part, rank+1)
	}
}

func (w *printer) one(e Expr) {
	switch {
	case e.Op == "BOUND":
		w.add("BOUND", "(", varText(e.Node.Var), ")")
	case term.Same(e.Node.Term, term.Bool(true)):
		w.add("TRUE")
	case term.Same(e.Node.Term, term.Bool(false)):
		w.add("FALSE")
	default:
		w.add(nodeText(e.Node))
	}
}

func exprRank(op string) int {
	switch op {
	case "||":
		return orRank
	case "&&":
		return andRank
	case "=", "!=", "<=", ">=", "<", ">":
		return testRank
	case "+", "-":
		return sumRank
	case "*", "/":
		return prodRank
	case "!", "neg":
		return signRank
	}
	return oneRank
}

// signText answers how an expression's sign is written.
func signText(op string) string {
	if op == "neg" {
		return "-"
	}
	return op
}
