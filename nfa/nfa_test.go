package nfa_test

import (
	"math"
	"math/rand"
	"slices"
	"testing"

	"beck/api"
	"beck/nfa"
)

var leaves = []nfa.Path{step(0), back(0), step(1)}

// manyPaths are good ones, small and great.
func manyPaths() []nfa.Path {
	var l []nfa.Path
	for many := 1; many <= 4; many++ {
		l = append(l, smallPaths(leaves, many)...)
	}
	random := rand.New(rand.NewSource(10))
	for range 600 {
		l = append(l, anyPath(random, 1+random.Intn(5), 1+random.Intn(maxPaths), 1+random.Intn(maxDeep)))
	}
	return l
}

// nested is a path that stands in so many others of a kind.
func nested(kind, many int, p nfa.Path) nfa.Path {
	for range many {
		p = of(kind, p)
	}
	return p
}

func leavesOf(many int) []nfa.Path {
	var l []nfa.Path
	for i := range many {
		l = append(l, step(i))
	}
	return l
}

func TestKinds(t *testing.T) {
	if l := []int{nfa.Step, nfa.Back, nfa.Seq, nfa.Alt, nfa.Star, nfa.Plus, nfa.Opt}; !slices.Equal(l, []int{0, 1, 2, 3, 4, 5, 6}) {
		t.Errorf("P10.1: the kinds: %v", l)
	}
}

func TestCheck(t *testing.T) {
	deep, tooDeep := nested(nfa.Star, 39, step(0)), nested(nfa.Star, 40, step(0))
	wide, tooWide := leavesOf(199), leavesOf(200)
	for i, c := range []struct {
		p    nfa.Path
		want api.Errno
	}{
		{step(0), api.OK}, {back(0), api.OK}, {step(math.MaxInt), api.OK}, {back(math.MaxInt), api.OK},
		{nfa.Path{}, api.OK}, {nfa.Path{Parts: []nfa.Path{}}, api.OK}, {nfa.Path{Kind: nfa.Back, Parts: []nfa.Path{}}, api.OK},
		{step(-1), api.ErrForm}, {back(-1), api.ErrForm}, {step(math.MinInt), api.ErrForm}, {back(math.MinInt), api.ErrForm},
		{of(nfa.Step, step(0)), api.ErrForm}, {of(nfa.Back, step(0)), api.ErrForm},
		{of(nfa.Seq), api.ErrForm}, {of(nfa.Alt), api.ErrForm}, {nfa.Path{Kind: nfa.Seq, Parts: []nfa.Path{}}, api.ErrForm},
		{of(nfa.Seq, step(0)), api.OK}, {of(nfa.Alt, step(0)), api.OK},
		{of(nfa.Seq, step(0), step(0), back(0)), api.OK}, {of(nfa.Alt, step(0), step(0), back(0)), api.OK},
		{of(nfa.Star), api.ErrForm}, {of(nfa.Plus), api.ErrForm}, {of(nfa.Opt), api.ErrForm},
		{of(nfa.Star, step(0)), api.OK}, {of(nfa.Plus, step(0)), api.OK}, {of(nfa.Opt, step(0)), api.OK},
		{of(nfa.Star, step(0), step(0)), api.ErrForm}, {of(nfa.Plus, step(0), step(0)), api.ErrForm}, {of(nfa.Opt, step(0), step(0)), api.ErrForm},
		{of(7, step(0)), api.ErrForm}, {of(7), api.ErrForm}, {of(-1), api.ErrForm}, {of(-1, step(0)), api.ErrForm},
		{of(math.MaxInt), api.ErrForm}, {of(math.MinInt), api.ErrForm},
		// A number is asked of Step and Back alone.
		{nfa.Path{Kind: nfa.Star, N: -1, Parts: leavesOf(1)}, api.OK}, {nfa.Path{Kind: nfa.Seq, N: 7, Parts: leavesOf(2)}, api.OK},
		// A fault may be anywhere.
		{of(nfa.Seq, step(0), of(nfa.Alt, step(0), of(nfa.Star))), api.ErrForm},
		{of(nfa.Seq, of(nfa.Opt, back(-1)), step(0)), api.ErrForm},
		{of(nfa.Alt, step(0), step(0), of(9)), api.ErrForm},
		{nested(nfa.Plus, 39, step(-1)), api.ErrForm},
		{deep, api.OK}, {tooDeep, api.ErrDeep}, {of(nfa.Alt, step(0), deep), api.ErrDeep}, {of(nfa.Seq, deep.Parts[0], step(0)), api.OK},
		{of(nfa.Seq, step(0), step(0), tooDeep, step(0)), api.ErrDeep},
		{of(nfa.Alt, wide...), api.OK}, {of(nfa.Alt, tooWide...), api.ErrMany}, {of(nfa.Seq, wide...), api.OK}, {of(nfa.Seq, tooWide...), api.ErrMany},
		{of(nfa.Star, of(nfa.Alt, wide...)), api.ErrMany}, {of(nfa.Star, of(nfa.Alt, wide[1:]...)), api.OK},
		{of(nfa.Seq, of(nfa.Alt, wide[:99]...), of(nfa.Alt, wide[:98]...)), api.OK},
		{of(nfa.Seq, of(nfa.Alt, wide[:99]...), of(nfa.Alt, wide[:99]...)), api.ErrMany},
		// ErrDeep is ahead of ErrMany, and that ahead of ErrForm.
		{of(nfa.Alt, append(leavesOf(200), tooDeep)...), api.ErrDeep}, {of(nfa.Alt, append([]nfa.Path{tooDeep}, wide...)...), api.ErrDeep},
		{of(nfa.Star, tooWide...), api.ErrMany}, {of(9, tooWide...), api.ErrMany}, {of(nfa.Step, tooWide...), api.ErrMany},
		{of(nfa.Alt, append(leavesOf(199), step(-1))...), api.ErrMany}, {of(nfa.Alt, append(leavesOf(198), step(-1))...), api.ErrForm},
		{nested(nfa.Step, 40, step(0)), api.ErrDeep}, {nested(9, 40, step(-1)), api.ErrDeep}, {nested(9, 39, step(0)), api.ErrForm},
		{of(nfa.Star, append(tooWide, tooDeep)...), api.ErrDeep},
	} {
		if got := nfa.Check(c.p); got != c.want {
			t.Errorf("P10.1: Check of %d: %d, want %d", i, got, c.want)
		}
		m, e := nfa.Compile(c.p)
		if e != c.want || (m == nil) != (c.want != api.OK) {
			t.Errorf("P10.1: Compile of %d: %d, want %d", i, e, c.want)
		}
	}
}

// spoiled is a path with a fault somewhere, or it is as it was.
func spoiled(random *rand.Rand, p nfa.Path) nfa.Path {
	p.Parts = slices.Clone(p.Parts)
	if len(p.Parts) > 0 && random.Intn(4) > 0 {
		i := random.Intn(len(p.Parts))
		p.Parts[i] = spoiled(random, p.Parts[i])
		return p
	}
	switch random.Intn(6) {
	case 0:
		p.Kind = random.Intn(11) - 2
	case 1:
		p.N = random.Intn(3) - 2
	case 2:
		p.Parts = append(p.Parts, step(0))
	case 3:
		p.Parts = p.Parts[:len(p.Parts)/2]
	case 4:
		p = nested(nfa.Seq+random.Intn(5), 30+random.Intn(10), p)
	case 5:
		p.Parts = append(p.Parts, leavesOf(150+random.Intn(60))...)
	}
	return p
}

func TestCheckOfAny(t *testing.T) {
	random := rand.New(rand.NewSource(100))
	many := map[api.Errno]int{}
	for _, p := range manyPaths() {
		if e := nfa.Check(p); e != api.OK {
			t.Fatalf("P10.1: Check of %s: %d", text(p), e)
		}
		for range 3 {
			x := spoiled(random, p)
			if e := nfa.Check(x); e != wanted(x) {
				t.Fatalf("P10.1: Check of %s: %d, want %d", text(x), e, wanted(x))
			}
			many[wanted(x)]++
		}
	}
	for _, e := range []api.Errno{api.OK, api.ErrForm, api.ErrMany, api.ErrDeep} {
		if many[e] < 10 {
			t.Errorf("P10.1: of %d only %d are tried", e, many[e])
		}
	}
}

// doubled has a path twice, and that twice, and so on: its parts are few in memory, but many.
func doubled(kind, levels int, p nfa.Path) nfa.Path {
	for range levels {
		p = of(kind, p, p)
	}
	return p
}

// ring is a path that stands in itself, twice.
func ring(kind int) nfa.Path {
	l := make([]nfa.Path, 2)
	l[0] = nfa.Path{Kind: kind, Parts: l}
	l[1] = nfa.Path{Kind: kind, Parts: l[:1]}
	return l[0]
}

// TestBadPathsEnd: of a path that may not be nothing is promised, but that each call ends, and none panics, however many paths are in it.
func TestBadPathsEnd(t *testing.T) {
	for i, c := range []struct {
		p    nfa.Path
		want api.Errno
	}{
		{doubled(nfa.Seq, 7, step(0)), api.ErrMany},
		{doubled(nfa.Seq, 39, step(0)), api.ErrMany},
		{doubled(nfa.Alt, 40, step(0)), api.ErrDeep},
		{doubled(nfa.Star, 39, step(0)), api.ErrMany},
		{doubled(nfa.Star, 6, step(0)), api.ErrForm},
		{doubled(nfa.Alt, 1000, step(0)), api.ErrDeep},
		{of(nfa.Alt, doubled(nfa.Seq, 20, step(0)), nested(nfa.Star, 39, step(0))), api.ErrDeep},
		{of(nfa.Alt, doubled(nfa.Seq, 20, nested(nfa.Star, 18, step(0))), step(0)), api.ErrMany},
		{of(nfa.Alt, doubled(nfa.Seq, 20, nested(nfa.Star, 19, step(0))), step(0)), api.ErrDeep},
		{nested(nfa.Star, 1<<16-1, step(0)), api.ErrDeep},
		{of(nfa.Alt, leavesOf(100000)...), api.ErrMany},
		{ring(nfa.Alt), api.ErrDeep}, {ring(nfa.Star), api.ErrDeep}, {ring(-7), api.ErrDeep},
		{of(nfa.Seq), api.ErrForm}, {of(nfa.Star), api.ErrForm}, {of(nfa.Opt), api.ErrForm}, {of(nfa.Alt, of(nfa.Plus)), api.ErrForm}, {step(-1), api.ErrForm},
	} {
		if e := nfa.Check(c.p); e != c.want {
			t.Errorf("P10.1: Check of %d: %d, want %d", i, e, c.want)
		}
		if m, e := nfa.Compile(c.p); m != nil || e != c.want {
			t.Errorf("P10.1: Compile of %d: %d, want %d", i, e, c.want)
		}
		c.p.Turned()
		c.p.Empty()
		c.p.Symbols()
	}
}

// TestDepthOfShared: lists of parts that have some in common, and a deep path at an end of one of them.
func TestDepthOfShared(t *testing.T) {
	for place := range 4 {
		l := make([]nfa.Path, 4)
		l[place] = nested(nfa.Opt, 37, step(0))
		for from := range 4 {
			for to := from + 1; to <= 4; to++ {
				p := of(nfa.Alt, of(nfa.Seq, l[:1]...), of(nfa.Seq, l[from:to]...), of(nfa.Seq, l[3:]...))
				if e := nfa.Check(p); e != wanted(p) {
					t.Errorf("P10.1: Check, %d in %d to %d: %d, want %d", place, from, to, e, wanted(p))
				}
				p = of(nfa.Plus, p)
				if e := nfa.Check(p); e != wanted(p) {
					t.Errorf("P10.1: Check, %d in %d to %d: %d, want %d", place, from, to, e, wanted(p))
				}
			}
		}
	}
}

func TestTurned(t *testing.T) {
	for _, c := range []struct{ p, want nfa.Path }{
		{step(7), back(7)}, {back(7), step(7)},
		{of(nfa.Seq, step(1), back(2), step(3)), of(nfa.Seq, back(3), step(2), back(1))},
		{of(nfa.Seq, step(1)), of(nfa.Seq, back(1))},
		{of(nfa.Alt, step(1), back(2), step(3)), of(nfa.Alt, back(1), step(2), back(3))},
		{of(nfa.Star, step(1)), of(nfa.Star, back(1))}, {of(nfa.Plus, back(1)), of(nfa.Plus, step(1))}, {of(nfa.Opt, step(1)), of(nfa.Opt, back(1))},
		{of(nfa.Seq, of(nfa.Seq, step(1), step(2)), of(nfa.Seq, step(3), step(4))), of(nfa.Seq, of(nfa.Seq, back(4), back(3)), of(nfa.Seq, back(2), back(1)))},
		{of(nfa.Alt, step(0), of(nfa.Star, of(nfa.Seq, step(1), back(2)))), of(nfa.Alt, back(0), of(nfa.Star, of(nfa.Seq, step(2), back(1))))},
		{nfa.Path{Kind: nfa.Plus, N: 5, Parts: leavesOf(1)}, nfa.Path{Kind: nfa.Plus, N: 5, Parts: []nfa.Path{back(0)}}},
	} {
		if got := c.p.Turned(); text(got) != text(c.want) {
			t.Errorf("P10.1: Turned of %s: %s, want %s", text(c.p), text(got), text(c.want))
		}
	}
	random := rand.New(rand.NewSource(11))
	for _, p := range manyPaths() {
		turned := p.Turned()
		if nfa.Check(turned) != api.OK || text(turned.Turned()) != text(p) {
			t.Fatalf("P10.1: Turned of %s: %s", text(p), text(turned))
		}
		for range 3 {
			w := wordOf(random, p)
			if !takes(turned, backwards(w)) {
				t.Fatalf("P10.1: Turned of %s doesn't take %v backwards", text(p), w)
			}
		}
	}
}

// TestTurnedTakes: what is turned takes the words backwards, each symbol turned, and no others.
func TestTurnedTakes(t *testing.T) {
	for _, p := range append(smallPaths(leaves, 3), smallPaths(leaves[1:], 4)...) {
		turned := compiled(t, p.Turned())
		for _, s := range words("aAbB", 3) {
			if w := word(s); turned.Takes(backwards(w)) != takes(p, w) {
				t.Fatalf("P10.1: Turned of %s, %q backwards: %v", text(p), s, !takes(p, w))
			}
		}
	}
}

func TestEmpty(t *testing.T) {
	a, star := step(0), of(nfa.Star, step(0))
	for _, c := range []struct {
		p    nfa.Path
		want bool
	}{
		{a, false}, {back(0), false}, {star, true}, {of(nfa.Opt, a), true}, {of(nfa.Plus, a), false}, {of(nfa.Plus, star), true},
		{of(nfa.Seq, a), false}, {of(nfa.Seq, star), true}, {of(nfa.Seq, star, star), true}, {of(nfa.Seq, star, a), false}, {of(nfa.Seq, a, star), false},
		{of(nfa.Alt, a), false}, {of(nfa.Alt, star), true}, {of(nfa.Alt, a, star), true}, {of(nfa.Alt, star, a), true}, {of(nfa.Alt, a, a), false},
		{of(nfa.Plus, of(nfa.Plus, of(nfa.Opt, a))), true}, {of(nfa.Plus, of(nfa.Seq, star, a)), false},
	} {
		if c.p.Empty() != c.want {
			t.Errorf("P10.1: Empty of %s: %v", text(c.p), !c.want)
		}
	}
	for _, p := range manyPaths() {
		if p.Empty() != takes(p, nil) {
			t.Fatalf("P10.1: Empty of %s: %v", text(p), p.Empty())
		}
	}
}

func TestSymbols(t *testing.T) {
	for _, c := range []struct {
		p    nfa.Path
		want []nfa.Symbol
	}{
		{step(3), []nfa.Symbol{{N: 3}}}, {back(3), []nfa.Symbol{{N: 3, Back: true}}},
		{of(nfa.Seq, back(0), step(1), step(1), back(0)), []nfa.Symbol{{N: 1}, {N: 0, Back: true}}},
		{of(nfa.Alt, back(9), step(10), of(nfa.Star, of(nfa.Seq, step(9), back(2), step(math.MaxInt))), step(2)), []nfa.Symbol{{N: 2}, {N: 9}, {N: 10}, {N: math.MaxInt}, {N: 2, Back: true}, {N: 9, Back: true}}},
		{nfa.Path{Kind: nfa.Opt, N: 4, Parts: []nfa.Path{back(5)}}, []nfa.Symbol{{N: 5, Back: true}}}, // a number of an Opt is no symbol
	} {
		if got := c.p.Symbols(); !slices.Equal(got, c.want) {
			t.Errorf("P10.1: Symbols of %s: %v, want %v", text(c.p), got, c.want)
		}
	}
	for _, p := range manyPaths() {
		there := map[nfa.Symbol]struct{}{}
		gather(p, there)
		got := p.Symbols()
		if len(got) != len(there) {
			t.Fatalf("P10.1: Symbols of %s: %v", text(p), got)
		}
		for i, s := range got {
			if _, ok := there[s]; !ok {
				t.Fatalf("P10.1: Symbols of %s: %v", text(p), got)
			}
			if i == 0 {
				continue
			}
			if last := got[i-1]; last.Back && !s.Back || last.Back == s.Back && last.N >= s.N {
				t.Fatalf("P10.1: Symbols of %s don't rise: %v", text(p), got)
			}
		}
	}
}

func gather(p nfa.Path, there map[nfa.Symbol]struct{}) {
	if len(p.Parts) == 0 {
		there[nfa.Symbol{N: p.N, Back: p.Kind == nfa.Back}] = struct{}{}
	}
	for _, x := range p.Parts {
		gather(x, there)
	}
}

// scribble writes over all lists of a path, spare room included.
func scribble(p nfa.Path) {
	for _, x := range p.Parts {
		scribble(x)
	}
	for i := range p.Parts[:cap(p.Parts)] {
		p.Parts[:cap(p.Parts)][i] = nfa.Path{Kind: -9, N: -9}
	}
}

// TestPathsStay: calls change nothing that is handed in, and answer new memory.
func TestPathsStay(t *testing.T) {
	room := make([]nfa.Path, 2, 6)
	copy(room, []nfa.Path{step(1), back(2)})
	for i := range room[2:6] {
		room[2:6][i] = nfa.Path{Kind: 77, N: i}
	}
	p := of(nfa.Seq, of(nfa.Alt, room...), of(nfa.Star, of(nfa.Seq, room...)), of(nfa.Seq, room...))
	was := text(p)
	for range 2 {
		nfa.Check(p)
		nfa.Compile(p)
		p.Empty()
		other := p.Turned()
		want := text(other)
		scribble(p.Turned())
		l, again := p.Symbols(), p.Symbols()
		for i := range l[:cap(l)] {
			l[:cap(l)][i] = nfa.Symbol{N: -9}
		}
		if text(p) != was || text(other) != want || !slices.Equal(again, []nfa.Symbol{{N: 1}, {N: 2, Back: true}}) {
			t.Fatalf("P10.1: %s, %s, %v", text(p), text(other), again)
		}
		for i, x := range room[2:6] {
			if x.Kind != 77 || x.N != i {
				t.Fatalf("P10.1: spare room of a list that was handed in: %v", room[:6])
			}
		}
	}
}

// TestTurnedSharesNone: the lists of one answer share nothing with one another, though those of the path do.
func TestTurnedSharesNone(t *testing.T) {
	parts := leavesOf(3)
	turned := of(nfa.Alt, of(nfa.Alt, parts...), of(nfa.Seq, parts...)).Turned()
	scribble(turned.Parts[0])
	if got, want := text(turned.Parts[1]), text(of(nfa.Seq, back(2), back(1), back(0))); got != want {
		t.Errorf("P10.1: Turned: %s, want %s", got, want)
	}
	_ = append(turned.Parts[1].Parts, step(9))
	_ = append(turned.Parts[0].Parts, step(9))
	if got := text(of(nfa.Alt, parts...)); got != text(of(nfa.Alt, leavesOf(3)...)) {
		t.Errorf("P10.1: the path that was turned: %s", got)
	}
}
