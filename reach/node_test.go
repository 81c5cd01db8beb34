package reach

import (
	"math/rand"
	"testing"

	"beck/api"
	"beck/dict"
	"beck/nfa"
)

// wellBuilt checks that a forest has the nodes and the steps of its edges, and no others.
func wellBuilt(t *testing.T, f *Forest) {
	t.Helper()
	if len(f.list) != len(f.nodes) {
		t.Fatalf("P11.2: %d nodes in the list, %d by numbers", len(f.list), len(f.nodes))
	}
	ends, steps := 0, 0
	for i, x := range f.list {
		if x.place != i || f.nodes[x.number] != x || x.ends < 1 {
			t.Fatalf("P11.2: node %d at %d", x.number, i)
		}
		if !x.come.none() || !x.fresh.none() {
			t.Fatalf("P11.2: a search has left its marks at node %d", x.number)
		}
		ends += x.ends
		for _, s := range x.steps {
			steps++
			k := dict.Key{s.from.number, f.symbols[s.symbol].N, s.to.number}
			if f.symbols[s.symbol].Back {
				k[0], k[2] = k[2], k[0]
			}
			if until, ok := f.edges[k]; !ok || until != s.until || s.from != x || f.nodes[s.to.number] != s.to {
				t.Fatalf("P11.2: a step of %v until %d", k, s.until)
			}
		}
	}
	want := 0
	for k := range f.edges {
		for _, s := range f.symbols {
			if s.N == k[1] {
				want++
			}
		}
	}
	if ends != 2*len(f.edges) || steps != want {
		t.Fatalf("P11.2: of %d edges %d ends, %d steps, want %d", len(f.edges), ends, steps, want)
	}
}

// TestWellBuilt: whatever comes and goes, nothing is kept of what is gone.
func TestWellBuilt(t *testing.T) {
	p := nfa.Path{Kind: nfa.Alt, Parts: []nfa.Path{{N: 0}, {Kind: nfa.Back, N: 0}, {N: 1}, {Kind: nfa.Back, N: 2}}}
	random := rand.New(rand.NewSource(113))
	for range 100 {
		f, e := New(p, 1+random.Intn(30))
		if e != api.OK {
			t.Fatalf("P11.1: New: %d", e)
		}
		for now := range 100 {
			f.Add(dict.Key{random.Intn(6), random.Intn(4), random.Intn(6)}, now+random.Intn(20))
			wellBuilt(t, f)
			if random.Intn(3) == 0 {
				f.Expire(now - random.Intn(3))
				wellBuilt(t, f)
			}
			if random.Intn(3) == 0 {
				f.From(random.Intn(6))
				f.Has(random.Intn(6), random.Intn(6))
				f.Pairs()
				wellBuilt(t, f)
			}
		}
		f.Expire(1000)
		wellBuilt(t, f)
		if f.Len() != 0 || f.Size() != 0 || len(f.nodes) != 0 {
			t.Fatalf("P11.2: all are gone: %d edges, %d nodes", f.Len(), len(f.nodes))
		}
	}
}
