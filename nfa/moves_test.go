package nfa

import (
	"testing"

	"beck/api"
)

// TestMoves: a state's moves rise, each once, and lead to states that there are, though loops within one another ask for the same ones.
func TestMoves(t *testing.T) {
	opt := Path{Kind: Opt, Parts: []Path{{N: 2}}}
	p := Path{Kind: Seq, Parts: []Path{opt, {Kind: Star, Parts: []Path{{Kind: Back, N: 2}}}, {N: 1}, opt}}
	for i := range 30 {
		m, e := Compile(p)
		if e != api.OK || len(m.states) != len(symbols(p))+1 {
			t.Fatalf("P10.1: Compile at %d: %d", i, e)
		}
		for _, x := range m.states {
			for k, y := range x.moves {
				if !m.has(y.to) || k > 0 && before(x.moves[k-1], y) >= 0 {
					t.Fatalf("P10.1: moves at %d: %v", i, x.moves)
				}
			}
		}
		p = Path{Kind: []int{Plus, Star, Opt}[i%3], Parts: []Path{p}}
	}
}
