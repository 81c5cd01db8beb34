package nfa_test

import (
	"math/rand"
	"slices"
	"strconv"
	"strings"

	"beck/api"
	"beck/nfa"
)

const (
	maxDeep  = 40
	maxPaths = 200
)

func step(n int) nfa.Path { return nfa.Path{Kind: nfa.Step, N: n} }

func back(n int) nfa.Path { return nfa.Path{Kind: nfa.Back, N: n} }

func of(kind int, parts ...nfa.Path) nfa.Path { return nfa.Path{Kind: kind, Parts: parts} }

// word is symbols of letters: a to z, gone back A to Z.
func word(s string) []nfa.Symbol {
	var l []nfa.Symbol
	for _, r := range s {
		if r >= 'a' {
			l = append(l, nfa.Symbol{N: int(r - 'a')})
		} else {
			l = append(l, nfa.Symbol{N: int(r - 'A'), Back: true})
		}
	}
	return l
}

// words are all of some letters that have at most so many.
func words(letters string, most int) []string {
	all := []string{""}
	for i := 0; i < len(all); i++ {
		if len(all[i]) == most {
			break
		}
		for _, r := range letters {
			all = append(all, all[i]+string(r))
		}
	}
	return all
}

// text tells a path apart from all others.
func text(p nfa.Path) string {
	var parts []string
	for _, x := range p.Parts {
		parts = append(parts, text(x))
	}
	return strconv.Itoa(p.Kind) + ":" + strconv.Itoa(p.N) + "(" + strings.Join(parts, " ") + ")"
}

// depth, size and formed are the chapter's words, and wanted is what Check has to answer by them.
func depth(p nfa.Path) int {
	deepest := 0
	for _, x := range p.Parts {
		deepest = max(deepest, depth(x))
	}
	return deepest + 1
}

func size(p nfa.Path) int {
	n := 1
	for _, x := range p.Parts {
		n += size(x)
	}
	return n
}

func formed(p nfa.Path) bool {
	for _, x := range p.Parts {
		if !formed(x) {
			return false
		}
	}
	switch p.Kind {
	case 0, 1:
		return p.N >= 0 && len(p.Parts) == 0
	case 2, 3:
		return len(p.Parts) > 0
	case 4, 5, 6:
		return len(p.Parts) == 1
	}
	return false
}

func wanted(p nfa.Path) api.Errno {
	switch {
	case depth(p) > maxDeep:
		return api.ErrDeep
	case size(p) > maxPaths:
		return api.ErrMany
	case !formed(p):
		return api.ErrForm
	}
	return api.OK
}

// ends tells at which places of a word a path may end that begins at one of some places.
func ends(p nfa.Path, w []nfa.Symbol, from []bool) []bool {
	to := make([]bool, len(w)+1)
	switch p.Kind {
	case nfa.Step, nfa.Back:
		for i, s := range w {
			to[i+1] = from[i] && s.N == p.N && s.Back == (p.Kind == nfa.Back)
		}
	case nfa.Seq:
		to = from
		for _, x := range p.Parts {
			to = ends(x, w, to)
		}
	case nfa.Alt:
		for _, x := range p.Parts {
			to = either(to, ends(x, w, from))
		}
	case nfa.Star:
		to = from
		for { // once more, till that tells nothing new
			more := either(to, ends(p.Parts[0], w, to))
			if slices.Equal(more, to) {
				break
			}
			to = more
		}
	case nfa.Plus:
		to = ends(of(nfa.Star, p.Parts...), w, ends(p.Parts[0], w, from))
	case nfa.Opt:
		to = either(from, ends(p.Parts[0], w, from))
	}
	return to
}

func either(a, b []bool) []bool {
	l := slices.Clone(a)
	for i := range l {
		l[i] = l[i] || b[i]
	}
	return l
}

// takes tells whether a path takes a word.
func takes(p nfa.Path, w []nfa.Symbol) bool {
	from := make([]bool, len(w)+1)
	from[0] = true
	return ends(p, w, from)[len(w)]
}

// smallPaths are all that have just so many paths in them, of some leaves.
func smallPaths(leaves []nfa.Path, many int) []nfa.Path {
	if many == 1 {
		return leaves
	}
	var l []nfa.Path
	for _, parts := range smallParts(leaves, many-1) {
		l = append(l, of(nfa.Seq, parts...), of(nfa.Alt, parts...))
		if len(parts) == 1 {
			l = append(l, of(nfa.Star, parts...), of(nfa.Plus, parts...), of(nfa.Opt, parts...))
		}
	}
	return l
}

// smallParts are all lists of paths that have just so many in all.
func smallParts(leaves []nfa.Path, many int) [][]nfa.Path {
	if many == 0 {
		return [][]nfa.Path{nil}
	}
	var l [][]nfa.Path
	for first := 1; first <= many; first++ {
		for _, p := range smallPaths(leaves, first) {
			for _, others := range smallParts(leaves, many-first) {
				l = append(l, append([]nfa.Path{p}, others...))
			}
		}
	}
	return l
}

// anyPath is a good one of at most so many paths, and levels.
func anyPath(random *rand.Rand, numbers, most, levels int) nfa.Path {
	if most < 2 || levels < 2 || random.Intn(12) == 0 {
		return nfa.Path{Kind: random.Intn(2), N: random.Intn(numbers)}
	}
	p := nfa.Path{Kind: nfa.Seq + random.Intn(5)}
	many := 1
	if p.Kind == nfa.Seq || p.Kind == nfa.Alt {
		many += random.Intn(min(4, most-1))
	}
	for i := range many {
		p.Parts = append(p.Parts, anyPath(random, numbers, (most-1)/many, levels-1-i%2))
	}
	return p
}

// wordOf is one that a path takes, of which loops are gone a few times.
func wordOf(random *rand.Rand, p nfa.Path) []nfa.Symbol {
	many := 1
	switch p.Kind {
	case nfa.Step, nfa.Back:
		return []nfa.Symbol{{N: p.N, Back: p.Kind == nfa.Back}}
	case nfa.Alt:
		return wordOf(random, p.Parts[random.Intn(len(p.Parts))])
	case nfa.Star:
		many = random.Intn(3)
	case nfa.Plus:
		many = 1 + random.Intn(2)
	case nfa.Opt:
		many = random.Intn(2)
	}
	var w []nfa.Symbol
	for range many {
		for _, x := range p.Parts {
			w = append(w, wordOf(random, x)...)
			w = w[:min(len(w), 1000)]
		}
	}
	return w
}

// backwards is a word from its end, each symbol turned.
func backwards(w []nfa.Symbol) []nfa.Symbol {
	var l []nfa.Symbol
	for _, s := range slices.Backward(w) {
		l = append(l, nfa.Symbol{N: s.N, Back: !s.Back})
	}
	return l
}
