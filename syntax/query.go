package syntax

import (
	"beck/api"
	"beck/window"
)

func (p *parser) query() Query {
	var q Query
	p.must("REGISTER")
	q.Kind = p.must("RSTREAM", "ISTREAM", "DSTREAM")
	q.IRI = p.iri()
	p.must("AS")
	p.must("SELECT")
	q.Distinct = p.has("DISTINCT")
	q.Select = some(p.selection, p.atSelection)
	for p.has("FROM") {
		q.Sources = append(q.Sources, p.source())
	}
	p.must("WHERE")
	q.Where = p.group()
	if p.has("GROUP") {
		p.must("BY")
		q.By = some(p.variable, p.atVariable)
	}
	return q
}

// atSelection tells whether a selection follows.
func (p *parser) atSelection() bool { return p.atVariable() || p.Peek() == '(' }

func (p *parser) selection() Select {
	if p.atVariable() {
		return Select{Var: p.variable()}
	}
	return enclosed(p, p.fold)
}

// fold reads what stands in the parentheses of a selection.
func (p *parser) fold() Select {
	var s Select
	s.Fold = p.must("COUNT", "SUM", "MIN", "MAX")
	s.Of = enclosed(p, p.folded)
	p.must("AS")
	s.Var = p.variable()
	return s
}

// folded reads what a fold is made of.
func (p *parser) folded() string {
	if p.has("*") {
		return "*"
	}
	return p.variable()
}

// source reads what stands behind FROM.
func (p *parser) source() Source {
	var s Source
	p.must("WINDOW")
	s.Name = p.iri()
	p.must("ON")
	s.Stream = p.iri()
	p.must("[")
	s.Shape = p.shape()
	p.must("]")
	switch p.oneOf("NONEMPTY", "CHANGE") {
	case "NONEMPTY":
		s.Policy = window.NonEmpty
	case "CHANGE":
		s.Policy = window.Change
	}
	return s
}

func (p *parser) shape() window.Shape {
	var s window.Shape
	p.must("RANGE")
	_, s.Width = p.integer(false)
	p.must("STEP")
	_, s.Slide = p.integer(false)
	if p.has("BEGIN") {
		_, s.Begin = p.integer(true)
	}
	return s
}

func (p *parser) group() Group {
	from := p.Place()
	p.must("{")
	if p.inside == api.MaxDeep {
		panic(fault{from, api.ErrDeep})
	}
	p.inside++
	var g Group
	for !p.has("}") {
		g.Items = append(g.Items, p.item())
	}
	p.inside--
	return g
}

func (p *parser) item() Item {
	switch {
	case p.has("FILTER"):
		return Item{Kind: Filter, Expr: enclosed(p, p.expression)}
	case p.has("BIND"):
		return enclosed(p, p.binding)
	case p.has("OPTIONAL"):
		return Item{Kind: Optional, Groups: []Group{p.group()}}
	case p.has("WINDOW"):
		return Item{Kind: Window, IRI: p.iri(), Groups: []Group{p.group()}}
	case p.Peek() == '{':
		return Item{Kind: Union, Groups: some(p.group, p.behind("UNION"))}
	}
	return p.triple()
}

// behind tells, whenever it is asked, whether a word or a mark follows that stands between parts; then it is read.
func (p *parser) behind(text string) func() bool {
	return func() bool { return p.has(text) }
}

// binding reads what stands in the parentheses of a BIND.
func (p *parser) binding() Item {
	x := Item{Kind: Bind, Expr: p.expression()}
	p.must("AS")
	x.Var = p.variable()
	return x
}

func (p *parser) triple() Item {
	x := Item{Kind: Triple, S: p.node()}
	if p.atVariable() {
		x.P.Var = p.variable()
	} else {
		x.Path = shallow(p, p.path)
	}
	x.O = p.node()
	p.must(".")
	return x
}
