package reach_test

import (
	"fmt"
	"maps"
	"math"
	"math/rand"
	"slices"
	"strings"
	"testing"

	"beck/api"
	"beck/dict"
	"beck/nfa"
	"beck/reach"
)

const maxRoom = 10000

func step(n int) nfa.Path { return nfa.Path{Kind: nfa.Step, N: n} }

func back(n int) nfa.Path { return nfa.Path{Kind: nfa.Back, N: n} }

func of(kind int, parts ...nfa.Path) nfa.Path { return nfa.Path{Kind: kind, Parts: parts} }

// relation is pairs, and how long each lasts.
type relation = map[reach.Pair]int

type edges = map[dict.Key]int

// nodesOf are the subjects and objects of edges, rising.
func nodesOf(l edges) []int {
	all := map[int]int{}
	for k := range l {
		all[k[0]], all[k[2]] = 1, 1
	}
	return slices.Sorted(maps.Keys(all))
}

// wanted has the chapter's words in the plainest way: each kind of path makes pairs of those of its parts.
func wanted(p nfa.Path, l edges) relation {
	switch p.Kind {
	case nfa.Step, nfa.Back:
		return along(p, l)
	case nfa.Seq:
		r := wanted(p.Parts[0], l)
		for _, part := range p.Parts[1:] {
			r = behind(r, wanted(part, l))
		}
		return r
	case nfa.Alt:
		r := relation{}
		for _, part := range p.Parts {
			r = either(r, wanted(part, l))
		}
		return r
	case nfa.Opt:
		return either(stay(l), wanted(p.Parts[0], l))
	}
	once := wanted(p.Parts[0], l)
	r := once
	if p.Kind == nfa.Star {
		r = either(r, stay(l))
	}
	for { // once more, till that tells nothing new
		more := either(r, behind(r, once))
		if maps.Equal(r, more) {
			return r
		}
		r = more
	}
}

// along is the pairs of walks of one edge.
func along(p nfa.Path, l edges) relation {
	r := relation{}
	for k, until := range l {
		switch {
		case k[1] != p.N:
		case p.Kind == nfa.Step:
			r[reach.Pair{From: k[0], To: k[2]}] = until
		default:
			r[reach.Pair{From: k[2], To: k[0]}] = until
		}
	}
	return r
}

// stay is the pairs of walks without edges.
func stay(l edges) relation {
	r := relation{}
	for _, x := range nodesOf(l) {
		r[reach.Pair{From: x, To: x}] = reach.Forever
	}
	return r
}

// longer lets a pair last at least until a time.
func longer(r relation, pair reach.Pair, until int) {
	if old, ok := r[pair]; !ok || until > old {
		r[pair] = until
	}
}

func either(a, b relation) relation {
	r := maps.Clone(a)
	for pair, until := range b {
		longer(r, pair, until)
	}
	return r
}

func behind(a, b relation) relation {
	from := map[int][]reach.Pair{}
	for pair := range b {
		from[pair.From] = append(from[pair.From], pair)
	}
	r := relation{}
	for x, until := range a {
		for _, y := range from[x.To] {
			longer(r, reach.Pair{From: x.From, To: y.To}, min(until, b[y]))
		}
	}
	return r
}

// model is a forest as the chapter tells it.
type model struct {
	p             nfa.Path
	room, horizon int
	edges         edges
}

func (m *model) add(k dict.Key, until int) api.Errno {
	old, there := m.edges[k]
	switch {
	case k[0] < 0 || k[1] < 0 || k[2] < 0 || until < -1<<61 || until > reach.Forever:
		return api.ErrRange
	case !there && len(m.edges) == m.room:
		return api.ErrFull
	case until < m.horizon || there && until < old:
		return api.OK
	}
	m.edges[k] = until
	return api.OK
}

func (m *model) expire(before int) int {
	m.horizon = max(m.horizon, before)
	was := len(m.edges)
	maps.DeleteFunc(m.edges, func(_ dict.Key, until int) bool { return until < m.horizon })
	return was - len(m.edges)
}

// both is a forest, and the model that it is held against.
type both struct {
	t *testing.T
	f *reach.Forest
	m *model
}

func newForest(t *testing.T, p nfa.Path, room int) *reach.Forest {
	t.Helper()
	f, e := reach.New(p, room)
	if e != api.OK || f == nil {
		t.Fatalf("P11.1: New(%v, %d): %d", p, room, e)
	}
	return f
}

func newBoth(t *testing.T, p nfa.Path, room int) *both {
	t.Helper()
	return &both{t: t, f: newForest(t, p, room), m: &model{p: p, room: room, horizon: math.MinInt, edges: edges{}}}
}

func (b *both) add(k dict.Key, until int) api.Errno {
	b.t.Helper()
	e := b.f.Add(k, until)
	if want := b.m.add(k, until); e != want {
		b.t.Fatalf("P11.1: Add(%v, %d): %d, want %d", k, until, e, want)
	}
	return e
}

func (b *both) expire(before int) int {
	b.t.Helper()
	n := b.f.Expire(before)
	if want := b.m.expire(before); n != want {
		b.t.Fatalf("P11.1: Expire(%d): %d, want %d", before, n, want)
	}
	return n
}

// same checks that both tell the same of all that is there.
func (b *both) same() {
	b.t.Helper()
	holds(b.t, "P11.1", b.f, b.m.p, b.m.edges)
}

// holds checks by each way of asking that a forest has just these edges.
func holds(t *testing.T, promise string, f *reach.Forest, p nfa.Path, l edges) {
	t.Helper()
	want := wanted(p, l)
	if got := f.Pairs(); !maps.Equal(got, want) {
		t.Fatalf("%s: Pairs of %v, edges %v: %s, want %s", promise, p, l, told(got), told(want))
	}
	nodes := nodesOf(l)
	if n := f.Len(); n != len(l) {
		t.Fatalf("%s: Len: %d, want %d", promise, n, len(l))
	}
	if n, most := f.Size(), f.States()*len(nodes)*len(nodes); n < 0 || n > most {
		t.Fatalf("%s: Size: %d, at most %d", promise, n, most)
	}
	numbers := append(slices.Clone(nodes), math.MinInt, -1, 0, 7, 99, math.MaxInt)
	for _, x := range numbers {
		var row []int
		for _, y := range nodes {
			if _, ok := want[reach.Pair{From: x, To: y}]; ok {
				row = append(row, y)
			}
		}
		if got := f.From(x); !slices.Equal(got, row) {
			t.Fatalf("%s: From(%d) of %v, edges %v: %v, want %v", promise, x, p, l, got, row)
		}
		for _, y := range numbers {
			if got := f.Has(x, y); got != slices.Contains(row, y) {
				t.Fatalf("%s: Has(%d, %d) of %v, edges %v: %v", promise, x, y, p, l, got)
			}
		}
	}
}

// told is pairs in order, a text each: "1-2:5", or "1-2" of one that lasts forever.
func told(r relation) string {
	var l []string
	for pair, until := range r {
		s := fmt.Sprint(pair.From, "-", pair.To)
		if until != reach.Forever {
			s += fmt.Sprint(":", until)
		}
		l = append(l, s)
	}
	slices.Sort(l)
	return strings.Join(l, " ")
}

// anyPath is a good one of at most so many paths, and levels.
func anyPath(random *rand.Rand, numbers, most, levels int) nfa.Path {
	if most < 2 || levels < 2 || random.Intn(10) == 0 {
		return nfa.Path{Kind: random.Intn(2), N: random.Intn(numbers)}
	}
	p := nfa.Path{Kind: nfa.Seq + random.Intn(5)}
	many := 1
	if p.Kind == nfa.Seq || p.Kind == nfa.Alt {
		many += random.Intn(min(3, most-1))
	}
	for range many {
		p.Parts = append(p.Parts, anyPath(random, numbers, (most-1)/many, levels-1))
	}
	return p
}

// anyKey is one of few nodes and predicates.
func anyKey(random *rand.Rand, nodes, predicates int) dict.Key {
	return dict.Key{random.Intn(nodes), random.Intn(predicates), random.Intn(nodes)}
}
