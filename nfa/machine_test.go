package nfa_test

import (
	"math"
	"math/rand"
	"slices"
	"strings"
	"testing"

	"beck/api"
	"beck/nfa"
)

func compiled(t *testing.T, p nfa.Path) *nfa.Machine {
	t.Helper()
	m, e := nfa.Compile(p)
	if e != api.OK || m == nil {
		t.Fatalf("P10.1: Compile of %s: %d", text(p), e)
	}
	return m
}

func TestTakes(t *testing.T) {
	a, b, back0 := step(0), step(1), back(0)
	for _, c := range []struct {
		p       nfa.Path
		yes, no string // words, with commas between
	}{
		{a, "a", ",A,b,aa,aA"},
		{back0, "A", ",a,B,AA"},
		{of(nfa.Seq, a), "a", ",aa"},
		{of(nfa.Seq, a, a), "aa", ",a,aaa"},
		{of(nfa.Seq, a, back0, b), "aAb", ",aA,Ab,aab,bAa,aAbb"},
		{of(nfa.Alt, a), "a", ",A,aa"},
		{of(nfa.Alt, a, a, back0), "a,A", ",b,aA,aa"},
		{of(nfa.Opt, a), ",a", "A,aa"},
		{of(nfa.Star, a), ",a,aa,aaaaaaa", "A,ab,ba,aaaaaab"},
		{of(nfa.Plus, a), "a,aa,aaaaaaa", ",A,ab,ba"},
		{of(nfa.Plus, of(nfa.Opt, a)), ",a,aa", "b"},
		{of(nfa.Opt, of(nfa.Plus, a)), ",a,aa", "b"},
		{of(nfa.Opt, of(nfa.Opt, a)), ",a", "aa"},
		{of(nfa.Star, of(nfa.Seq, a, b)), ",ab,abab", "a,aba,abb,ba,aab"},
		{of(nfa.Plus, of(nfa.Seq, a, b)), "ab,abab", ",a,aba,abb"},
		{of(nfa.Seq, of(nfa.Star, a), a), "a,aa,aaa", ",ab,b"},
		{of(nfa.Seq, a, of(nfa.Star, a)), "a,aa,aaa", ",ab,b"},
		{of(nfa.Seq, of(nfa.Opt, a), of(nfa.Opt, b), of(nfa.Opt, a)), ",a,b,aa,ab,ba,aba", "bb,bab,aab,aaa,abab"},
		{of(nfa.Star, of(nfa.Seq, of(nfa.Star, a), of(nfa.Star, b))), ",a,b,ab,ba,bbaab", "A,abA"},
		{of(nfa.Plus, of(nfa.Alt, of(nfa.Seq, a, b), of(nfa.Seq, b, a))), "ab,ba,abba,baab", ",aa,bb,aba,ababb"},
		{of(nfa.Seq, of(nfa.Plus, a), of(nfa.Alt, b, of(nfa.Star, back0)), a), "aa,aba,aaba,aAAa,aaa", ",a,ba,abba,abAa"},
		{of(nfa.Alt, of(nfa.Seq, a, b), of(nfa.Seq, a, a)), "ab,aa", "a,b,ba,aab"},
	} {
		m := compiled(t, c.p)
		for _, s := range strings.Split(c.yes, ",") {
			if !m.Takes(word(s)) {
				t.Errorf("P10.2: %s doesn't take %q", text(c.p), s)
			}
		}
		for _, s := range strings.Split(c.no, ",") {
			if m.Takes(word(s)) {
				t.Errorf("P10.2: %s takes %q", text(c.p), s)
			}
		}
	}
}

// TestTakesOfSmall: of all small paths, and all short words.
func TestTakesOfSmall(t *testing.T) {
	held := func(p nfa.Path, l []string) {
		m := compiled(t, p)
		for _, s := range l {
			if w := word(s); m.Takes(w) != takes(p, w) {
				t.Fatalf("P10.2: %s, %q: %v", text(p), s, !takes(p, w))
			}
		}
	}
	for many := 1; many <= 4; many++ {
		for _, p := range smallPaths(leaves, many) {
			held(p, words("aAbB", 4))
		}
	}
	for _, p := range smallPaths(leaves[1:], 5) {
		held(p, words("Ab", 5))
	}
}

// changed is a word with a symbol more, or fewer, or another one.
func changed(random *rand.Rand, w []nfa.Symbol) []nfa.Symbol {
	i := random.Intn(len(w) + 1)
	s := nfa.Symbol{N: random.Intn(6), Back: random.Intn(2) == 0}
	switch {
	case random.Intn(2) == 0:
		return slices.Insert(slices.Clone(w), i, s)
	case i == len(w):
		return w[:max(0, i-1)]
	case random.Intn(2) == 0:
		return slices.Delete(slices.Clone(w), i, i+1)
	}
	w = slices.Clone(w)
	w[i] = s
	return w
}

// TestTakesOfMany: of small and great paths, words that they take, and words that are a little other.
func TestTakesOfMany(t *testing.T) {
	random := rand.New(rand.NewSource(12))
	many := map[bool]int{}
	for _, p := range manyPaths() {
		m := compiled(t, p)
		for range 4 {
			w := wordOf(random, p)
			if w = w[:min(len(w), 40)]; len(w) < 40 && !m.Takes(w) {
				t.Fatalf("P10.2: %s doesn't take %v", text(p), w)
			}
			for range 4 {
				w = changed(random, w)
				if m.Takes(w) != takes(p, w) {
					t.Fatalf("P10.2: %s, %v: %v", text(p), w, !takes(p, w))
				}
				many[takes(p, w)]++
			}
		}
	}
	if many[true] < 1000 || many[false] < 1000 {
		t.Errorf("P10.2: only %v are tried", many)
	}
}

// TestTakesOfGreat: the greatest paths that may be.
func TestTakesOfGreat(t *testing.T) {
	long := func(n, many int) []nfa.Symbol { return slices.Repeat([]nfa.Symbol{{N: n}}, many) }
	m := compiled(t, of(nfa.Alt, leavesOf(199)...))
	if !m.Takes(long(0, 1)) || !m.Takes(long(198, 1)) || m.Takes(long(199, 1)) || m.Takes(long(5, 2)) || m.Takes(nil) {
		t.Error("P10.2: an Alt of 199")
	}
	m = compiled(t, of(nfa.Star, of(nfa.Alt, slices.Repeat([]nfa.Path{step(7)}, 198)...)))
	if !m.Takes(long(7, 500)) || m.Takes(append(long(7, 500), nfa.Symbol{N: 7, Back: true})) || !m.Takes(nil) {
		t.Error("P10.2: a Star of an Alt of 198")
	}
	opts := slices.Repeat([]nfa.Path{of(nfa.Opt, step(7))}, 99)
	m = compiled(t, of(nfa.Seq, opts...))
	if !m.Takes(nil) || !m.Takes(long(7, 1)) || !m.Takes(long(7, 99)) || m.Takes(long(7, 100)) {
		t.Error("P10.2: a Seq of 99 Opts")
	}
	m = compiled(t, of(nfa.Seq, slices.Repeat([]nfa.Path{step(7)}, 199)...))
	if !m.Takes(long(7, 199)) || m.Takes(long(7, 198)) || m.Takes(long(7, 200)) {
		t.Error("P10.2: a Seq of 199")
	}
	m = compiled(t, nested(nfa.Star, 37, of(nfa.Seq, opts[:80]...)))
	if !m.Takes(nil) || !m.Takes(long(7, 300)) || m.Takes(long(8, 1)) {
		t.Error("P10.2: 37 Stars in one another")
	}
	m = compiled(t, nested(nfa.Plus, 39, back(math.MaxInt)))
	if m.Takes(nil) || m.Takes(long(math.MaxInt, 1)) || !m.Takes([]nfa.Symbol{{N: math.MaxInt, Back: true}}) {
		t.Error("P10.2: 39 Pluses in one another")
	}
}

// TestLongWords: a fault at a long word's beginning, or at its end, is told as well.
func TestLongWords(t *testing.T) {
	m := compiled(t, of(nfa.Star, of(nfa.Seq, step(0), step(1))))
	w := slices.Repeat(word("ab"), 100000)
	if !m.Takes(w) || m.Takes(w[1:]) || m.Takes(w[:len(w)-1]) {
		t.Error("P10.2: long words")
	}
}

// rises checks that a list is a set of states that there are.
func rises(t *testing.T, m *nfa.Machine, l []int) {
	t.Helper()
	for i, x := range l {
		if x < 0 || x >= m.States() || i > 0 && l[i-1] >= x {
			t.Fatalf("P10.1: a set of states, of %d: %v", m.States(), l)
		}
	}
}

// lead answers where a set's states lead, one by one.
func lead(m *nfa.Machine, states []int, s nfa.Symbol) []int {
	var l []int
	for _, x := range states {
		l = append(l, m.Next([]int{x}, s)...)
	}
	slices.Sort(l)
	return slices.Compact(l)
}

// TestSets: where a set leads, and whether it is final, is told by its states; and what a word comes to tells whether it is taken.
func TestSets(t *testing.T) {
	random := rand.New(rand.NewSource(13))
	for _, p := range manyPaths() {
		m := compiled(t, p)
		rises(t, m, m.Begin())
		if m.States() < 1 || len(m.Begin()) == 0 || m.Final(nil) {
			t.Fatalf("P10.1: of %s, %d states, %v at the beginning", text(p), m.States(), m.Begin())
		}
		all := make([]int, m.States())
		for i := range all {
			all[i] = i
		}
		for _, s := range append(p.Symbols(), nfa.Symbol{N: 77}, nfa.Symbol{N: -1}, nfa.Symbol{N: math.MinInt, Back: true}) {
			if len(m.Next(nil, s)) != 0 || len(m.Next([]int{}, s)) != 0 {
				t.Fatalf("P10.1: of %s, Next of no state", text(p))
			}
			for _, set := range [][]int{all, m.Begin(), some(random, all), some(random, all)} {
				next := m.Next(set, s)
				rises(t, m, next)
				if !slices.Equal(next, lead(m, set, s)) {
					t.Fatalf("P10.1: of %s, Next(%v, %v): %v, want %v", text(p), set, s, next, lead(m, set, s))
				}
				final := slices.ContainsFunc(set, func(x int) bool { return m.Final([]int{x}) })
				if m.Final(set) != final {
					t.Fatalf("P10.1: of %s, Final(%v): %v", text(p), set, !final)
				}
			}
		}
		held(t, m, p, wordOf(random, p))
	}
}

// some is part of a list.
func some(random *rand.Rand, all []int) []int {
	return slices.DeleteFunc(slices.Clone(all), func(int) bool { return random.Intn(2) == 0 })
}

// held checks what sets a word, and each beginning of it, comes to.
func held(t *testing.T, m *nfa.Machine, p nfa.Path, w []nfa.Symbol) {
	t.Helper()
	w = w[:min(len(w), 20)]
	states := m.Begin()
	for i, s := range w {
		if m.Final(states) != takes(p, w[:i]) || m.Takes(w[:i]) != takes(p, w[:i]) {
			t.Fatalf("P10.2: of %s, %v comes to %v", text(p), w[:i], states)
		}
		states = m.Next(states, s)
	}
	if m.Final(states) != takes(p, w) {
		t.Fatalf("P10.2: of %s, %v comes to %v", text(p), w, states)
	}
}

// TestStrangeSets: of what is no set of states nothing is promised, but that each call ends, and none panics.
func TestStrangeSets(t *testing.T) {
	m := compiled(t, of(nfa.Star, of(nfa.Seq, step(0), back(1))))
	for _, l := range [][]int{{-1}, {math.MinInt, math.MaxInt}, {m.States()}, {2, 1, 0}, {1, 1, 1, 1, 1}, {-5, 0, 1000}} {
		rises(t, m, m.Next(l, nfa.Symbol{N: 0}))
		m.Final(l)
	}
}

// TestMachinesStay: a machine tells the same whatever is done with what it was given, and what it answered.
func TestMachinesStay(t *testing.T) {
	a := nfa.Symbol{N: 0}
	parts := []nfa.Path{of(nfa.Opt, step(0)), step(0), step(1)}
	p := of(nfa.Plus, of(nfa.Seq, parts...))
	m := compiled(t, p)
	scribble(p)
	begin := m.Begin()
	first := m.Next(begin, a)
	if len(first) < 2 {
		t.Fatalf("P10.1: Next: %v", first)
	}
	room := append(make([]int, 0, 9), first...)
	second := m.Next(room, a)
	for range 3 {
		for _, l := range [][]int{m.Begin(), m.Next(begin, a), m.Next(room, a), m.Next(first, nfa.Symbol{N: 1})} {
			for i := range l[:cap(l)] {
				l[:cap(l)][i] = 1000
			}
		}
		w := append(make([]nfa.Symbol, 0, 9), word("aabab")...)
		if !m.Takes(w) || m.Takes(w[:4]) || !slices.Equal(w, word("aabab")) {
			t.Fatal("P10.2: of a machine that is asked several times")
		}
		if !slices.Equal(m.Begin(), begin) || !slices.Equal(m.Next(begin, a), first) || !slices.Equal(m.Next(room, a), second) {
			t.Fatalf("P10.1: %v, %v, %v", m.Begin(), m.Next(begin, a), m.Next(room, a))
		}
		m.Final(room)
		if !slices.Equal(room[:9], append(slices.Clone(first), make([]int, 9-len(first))...)) {
			t.Fatalf("P10.1: a set that was handed in: %v", room[:9])
		}
	}
}
