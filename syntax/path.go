package syntax

import "beck/nfa"

func (p *parser) path() Path { return p.parts(nfa.Alt, "|", p.seq) }

func (p *parser) seq() Path { return p.parts(nfa.Seq, "/", p.step) }

// parts reads a path of parts with a mark between them; where there is but one, that is the path.
func (p *parser) parts(kind int, mark string, part func() Path) Path {
	l := some(part, p.behind(mark))
	if len(l) == 1 {
		return l[0]
	}
	return Path{Kind: kind, Parts: l}
}

func (p *parser) step() Path {
	x := p.atom()
	switch p.oneOf("*", "+", "~") {
	case "*":
		return Path{Kind: nfa.Star, Parts: []Path{x}}
	case "+":
		return Path{Kind: nfa.Plus, Parts: []Path{x}}
	case "~":
		return Path{Kind: nfa.Opt, Parts: []Path{x}}
	}
	return x
}

func (p *parser) atom() Path {
	switch {
	case p.Peek() == '(':
		return enclosed(p, p.path)
	case p.has("^"):
		return Path{Kind: nfa.Back, IRI: p.iri()}
	}
	return Path{Kind: nfa.Step, IRI: p.iri()}
}

// The ranks of paths: what has a lower one than may stand at a place stands there in parentheses.
const (
	altRank = iota
	seqRank
	stepRank
	atomRank
)

func (w *printer) path(p Path, least int) {
	rank := pathRank(p.Kind)
	if rank < least {
		w.add("(")
		w.path(p, altRank)
		w.add(")")
		return
	}
	switch p.Kind {
	case nfa.Back:
		w.add("^", iriText(p.IRI))
	case nfa.Step:
		w.add(iriText(p.IRI))
	}
	for i, part := range p.Parts {
		if i > 0 {
			w.add(pathMark(p.Kind))
		}
		w.path(part, rank+1)
	}
	if rank == stepRank {
		w.add(pathMark(p.Kind))
	}
}

func pathRank(kind int) int {
	switch kind {
	case nfa.Alt:
		return altRank
	case nfa.Seq:
		return seqRank
	case nfa.Star, nfa.Plus, nfa.Opt:
		return stepRank
	}
	return atomRank
}

// pathMark answers what stands between a path's parts, or behind its one part.
func pathMark(kind int) string {
	switch kind {
	case nfa.Alt:
		return "|"
	case nfa.Seq:
		return "/"
	case nfa.Star:
		return "*"
	case nfa.Plus:
		return "+"
	case nfa.Opt:
		return "~"
	}
	return ""
}
