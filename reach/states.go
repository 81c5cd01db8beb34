package reach

import "math/bits"

// wordBits is how many states stand in one word of a set.
const wordBits = 64

// states is a set of a machine's, a bit each: at most 200 paths are in a path, so that its machine has fewer states than there are bits.
type states [4]uint64

// setOf answers a set that a machine told.
func setOf(l []int) states {
	var s states
	for _, i := range l {
		s[i/wordBits] |= 1 << (i % wordBits)
	}
	return s
}

// none tells whether no state is in a set.
func (s states) none() bool { return s == states{} }

// and answers what is in one of two sets, or in both.
func (s states) and(t states) states {
	for i, word := range t {
		s[i] |= word
	}
	return s
}

// but answers what is in a set, and not in another one.
func (s states) but(t states) states {
	for i, word := range t {
		s[i] &^= word
	}
	return s
}

// meets tells whether a state is in both sets.
func (s states) meets(t states) bool { return s.but(t) != s }

// next answers where a set leads, of whose states each leads where a list tells.
func (s states) next(leads []states) states {
	var all states
	for i, word := range s {
		for ; word != 0; word &= word - 1 {
			all = all.and(leads[i*wordBits+bits.TrailingZeros64(word)])
		}
	}
	return all
}

// leads answers where the machine's states lead, by the places of the path's symbols, and by states: a search asks for that too often to have the machine go through it each time.
func (f *Forest) leads() [][]states {
	l := make([][]states, len(f.symbols))
	for i, symbol := range f.symbols {
		for state := range f.States() {
			l[i] = append(l[i], setOf(f.Next([]int{state}, symbol)))
		}
	}
	return l
}

// finals answers the machine's final states.
func (f *Forest) finals() states {
	var l []int
	for state := range f.States() {
		if f.Final([]int{state}) {
			l = append(l, state)
		}
	}
	return setOf(l)
}
