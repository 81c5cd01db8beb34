package syntax

import "beck/api"

// tree is what has parts of its own kind.
type tree interface{ depth() int }

func (p Path) depth() int { return 1 + deepest(p.Parts) }

func (e Expr) depth() int { return 1 + deepest(e.Parts) }

// deepest answers the depth of the deepest part; of none 0.
func deepest[T tree](parts []T) int {
	n := 0
	for _, part := range parts {
		n = max(n, part.depth())
	}
	return n
}

// shallow reads a tree that isn't too deep. Parentheses leave no trace, so that the depth is known only when all of it is read.
func shallow[T tree](p *parser, part func() T) T {
	from := p.Place()
	t := part()
	if t.depth() > api.MaxDeep {
		panic(fault{from, api.ErrDeep})
	}
	return t
}
