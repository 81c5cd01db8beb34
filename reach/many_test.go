package reach_test

import (
	"maps"
	"math"
	"math/rand"
	"slices"
	"testing"

	"beck/api"
	"beck/dict"
	"beck/nfa"
	"beck/reach"
)

// anyUntil is a time near another one, or seldom one far off.
func anyUntil(random *rand.Rand, now int) int {
	switch random.Intn(20) {
	case 0:
		return reach.Forever
	case 1:
		return least
	case 2:
		return []int{least - 1, reach.Forever + 1, math.MinInt, math.MaxInt}[random.Intn(4)]
	}
	return now + random.Intn(9) - 2
}

// TestOfMany: whatever is added and expired, of whatever path, the answers are as the chapter says.
func TestOfMany(t *testing.T) {
	random := rand.New(rand.NewSource(11))
	for range 300 {
		b := newBoth(t, anyPath(random, 3, 1+random.Intn(12), 5), 1+random.Intn(15))
		now := random.Intn(10) - 5
		nodes := 2 + random.Intn(5)
		for range 60 {
			switch random.Intn(10) {
			case 0:
				now += random.Intn(4)
				b.expire(now)
			case 1:
				b.expire(now - 3)
			case 2:
				k := anyKey(random, nodes, 4)
				k[random.Intn(3)] = -1
				b.add(k, anyUntil(random, now))
			default:
				b.add(anyKey(random, nodes, 4), anyUntil(random, now))
			}
			if random.Intn(4) == 0 {
				b.same()
			}
		}
		b.same()
		if r, e := reach.Of(b.m.p, b.m.edges); e != api.OK || !maps.Equal(r, wanted(b.m.p, b.m.edges)) {
			t.Fatalf("P11.1: Of %v, edges %v: %s, %d", b.m.p, b.m.edges, told(r), e)
		}
	}
}

// TestSmallPaths: all paths of a few parts, of all graphs of two nodes and two predicates.
func TestSmallPaths(t *testing.T) {
	l := []nfa.Path{step(0), back(0), step(1)}
	for _, a := range l[:3] {
		for _, b := range l[:3] {
			l = append(l, of(nfa.Seq, a, b), of(nfa.Alt, a, b))
		}
	}
	for _, p := range slices.Clone(l) {
		l = append(l, of(nfa.Star, p), of(nfa.Plus, p), of(nfa.Opt, p), of(nfa.Seq, of(nfa.Opt, p), of(nfa.Plus, p)))
	}
	for bits := range 1 << 8 {
		x := edges{}
		for i := range 8 {
			if bits>>i&1 == 1 {
				x[dict.Key{i & 1, i >> 1 & 1, i >> 2}] = (bits>>4 + i*5) % 7
			}
		}
		for _, p := range l {
			if r, e := reach.Of(p, x); e != api.OK || !maps.Equal(r, wanted(p, x)) {
				t.Fatalf("P11.1: Of %v, edges %v: %s, %d", p, x, told(r), e)
			}
		}
	}
}

// grown is a forest that has just these edges behind some others, that came and went, and behind edges that got their times bit by bit.
func grown(t *testing.T, random *rand.Rand, p nfa.Path, room int, l edges) *reach.Forest {
	t.Helper()
	f := newForest(t, p, room)
	for range random.Intn(room + 1) { // gone, below all times of those that stay
		f.Add(anyKey(random, 6, 4), least+random.Intn(50))
	}
	f.Expire(least + random.Intn(25))
	f.Expire(-1000)
	keys := slices.SortedFunc(maps.Keys(l), func(a, b dict.Key) int { return slices.Compare(a[:], b[:]) })
	for range 2 {
		for _, i := range random.Perm(len(keys)) {
			f.Add(keys[i], max(-1000, l[keys[i]]-random.Intn(3)))
		}
		f.Expire(-1000 - random.Intn(2))
	}
	for _, i := range random.Perm(len(keys)) {
		if e := f.Add(keys[i], l[keys[i]]); e != api.OK {
			t.Fatalf("P11.2: Add(%v): %d", keys[i], e)
		}
	}
	return f
}

// TestOrder: what is told hangs on the edges that are there, not on how they came, nor on what went.
func TestOrder(t *testing.T) {
	random := rand.New(rand.NewSource(112))
	for range 300 {
		p := anyPath(random, 3, 1+random.Intn(12), 5)
		l := edges{}
		for range random.Intn(15) {
			l[anyKey(random, 6, 4)] = random.Intn(10) - 5
		}
		plain := newForest(t, p, maxRoom)
		for k, until := range l {
			plain.Add(k, until)
		}
		holds(t, "P11.2", plain, p, l)
		for range 4 {
			f := grown(t, random, p, len(l)+20, l)
			holds(t, "P11.2", f, p, l)
			if f.Size() != plain.Size() {
				t.Fatalf("P11.2: Size: %d, %d", f.Size(), plain.Size())
			}
			before := random.Intn(12) - 6 // what is there tells what goes, too
			rest := maps.Clone(l)
			maps.DeleteFunc(rest, func(_ dict.Key, until int) bool { return until < before })
			if n := f.Expire(before); n != len(l)-len(rest) {
				t.Fatalf("P11.2: Expire(%d): %d, want %d", before, n, len(l)-len(rest))
			}
			holds(t, "P11.2", f, p, rest)
		}
	}
}

// fill adds as many edges as there is room for, by a rule, and checks that one more has none.
func fill(t *testing.T, p nfa.Path, edge func(i int) (dict.Key, int)) *reach.Forest {
	t.Helper()
	f := newForest(t, p, maxRoom)
	for i := range maxRoom {
		k, until := edge(i)
		if e := f.Add(k, until); e != api.OK {
			t.Fatalf("P11.1: Add of edge %d: %d", i, e)
		}
	}
	if e := f.Add(dict.Key{0, 99999, 0}, 5); e != api.ErrFull || f.Len() != maxRoom {
		t.Fatalf("P11.1: Add of one more than there is room for: %d, %d", e, f.Len())
	}
	return f
}

// TestChain: a walk may go as many edges as there are.
func TestChain(t *testing.T) {
	f := fill(t, plus, func(i int) (dict.Key, int) { return dict.Key{i, 0, i + 1}, maxRoom - i })
	if l := f.From(0); len(l) != maxRoom || l[0] != 1 || !slices.IsSorted(l) || !f.Has(0, maxRoom) || f.Has(1, 0) || f.Has(0, 0) {
		t.Errorf("P11.1: of a chain: %d", len(l))
	}
	if n := f.Expire(maxRoom - 50); n != maxRoom-51 || f.Has(0, 52) || !f.Has(0, 51) {
		t.Errorf("P11.1: Expire of a chain: %d", n)
	}
	r := f.Pairs()
	if len(r) != 51*52/2 || r[reach.Pair{From: 0, To: 51}] != maxRoom-50 || r[reach.Pair{From: 3, To: 5}] != maxRoom-4 {
		t.Errorf("P11.1: Pairs of a chain: %d", len(r))
	}
}

// TestRing: walks may go on without an end.
func TestRing(t *testing.T) {
	f := fill(t, of(nfa.Seq, step(0), of(nfa.Star, of(nfa.Seq, step(0), step(0)))), func(i int) (dict.Key, int) { return dict.Key{i, 0, (i + 1) % maxRoom}, i })
	if l := f.From(7); len(l) != maxRoom/2 || l[0] != 0 || l[1] != 2 || f.Has(7, 7) || !f.Has(7, 6) {
		t.Errorf("P11.1: of a ring: %d", len(l))
	}
	f.Expire(1) // one edge is gone, from 0 to 1
	if l := f.From(7); len(l) != (maxRoom-7+1)/2 || f.Has(7, 2) || !f.Has(7, 0) {
		t.Errorf("P11.1: of a ring that is cut: %d", len(l))
	}
}

// TestHub: many edges may begin, or end, at one node; those of predicate 1 lead to a hundredth of them.
func TestHub(t *testing.T) {
	f := fill(t, of(nfa.Alt, step(0), of(nfa.Seq, back(0), step(1))), func(i int) (dict.Key, int) {
		if i%100 == 99 {
			return dict.Key{0, 1, i + 1}, i
		}
		return dict.Key{0, 0, i + 1}, i
	})
	r := f.Pairs()
	if len(r) != 9900+9900*100 || r[reach.Pair{From: 0, To: 4}] != 3 || r[reach.Pair{From: 9, To: 2000}] != 8 || r[reach.Pair{From: 2001, To: 100}] != 99 {
		t.Errorf("P11.1: of a hub: %d", len(r))
	}
	if n := f.Expire(maxRoom - 2); n != maxRoom-2 || told(f.Pairs()) != "0-9999:9998 9999-10000:9998" {
		t.Errorf("P11.1: Expire of a hub: %d, %s", n, told(f.Pairs()))
	}
}

// TestApartEdges: as many nodes as there may be.
func TestApartEdges(t *testing.T) {
	f := fill(t, of(nfa.Star, back(0)), func(i int) (dict.Key, int) { return dict.Key{2 * i, 0, 2*i + 1}, i })
	r := f.Pairs()
	if len(r) != 3*maxRoom || r[reach.Pair{From: 9, To: 8}] != 4 || r[reach.Pair{From: 19999, To: 19999}] != reach.Forever {
		t.Errorf("P11.1: of edges apart: %d", len(r))
	}
	if n := f.Expire(maxRoom - 1); n != maxRoom-1 || told(f.Pairs()) != "19998-19998 19999-19998:9999 19999-19999" {
		t.Errorf("P11.1: Expire of edges apart: %d, %s", n, told(f.Pairs()))
	}
}

// TestGreatPaths: paths of as many parts as there may be.
func TestGreatPaths(t *testing.T) {
	same, apart, opts := []nfa.Path{}, []nfa.Path{}, []nfa.Path{}
	for i := range 198 {
		same = append(same, step(0))
		apart = append(apart, step(i))
	}
	for range 99 {
		opts = append(opts, of(nfa.Opt, step(0)))
	}
	random := rand.New(rand.NewSource(200))
	few, wide, long := edges{}, edges{}, edges{}
	for range 40 {
		few[anyKey(random, 8, 2)] = random.Intn(30)
		wide[anyKey(random, 8, 200)] = random.Intn(30)
	}
	for i := range 101 {
		long[dict.Key{i, 0, i + 1}] = i
	}
	for i, p := range []nfa.Path{
		of(nfa.Seq, same...), of(nfa.Alt, same...), of(nfa.Star, of(nfa.Seq, same...)), of(nfa.Plus, of(nfa.Alt, same...)),
		of(nfa.Seq, apart...), of(nfa.Alt, apart...), of(nfa.Star, of(nfa.Alt, apart...)), of(nfa.Seq, opts...), of(nfa.Alt, append(same, back(0))...),
	} {
		for _, l := range []edges{few, wide} {
			f := newForest(t, p, maxRoom)
			for k, until := range l {
				f.Add(k, until)
			}
			holds(t, "P11.1", f, p, l)
		}
		if r, e := reach.Of(p, long); e != api.OK || !maps.Equal(r, wanted(p, long)) {
			t.Errorf("P11.1: Of a great path, %d: %d, %d", i, len(r), e)
		}
	}
}
