package nfa

import (
	"cmp"
	"slices"
	"sort"

	"beck/api"
)

// Machine: a path's. Its first state is that of the beginning; each other one is that of a place in the path where a symbol stands, come to when that is gone. So it has no move without a symbol, and no state more than there are symbols, and the first.
type Machine struct {
	states []state
}

// state is one of a machine's.
type state struct {
	moves []move // rising by their symbols, then by where they lead
	final bool
}

// move is a symbol, and the state to which it leads.
type move struct {
	Symbol
	to int
}

// Compile: that of a path.
func Compile(p Path) (*Machine, api.Errno) {
	if e := Check(p); e != api.OK {
		return nil, e
	}
	m := &Machine{}
	begin := []int{m.more()}
	x := m.lay(p)
	m.lead(begin, x.first)
	if x.empty {
		x.last = append(x.last, begin...)
	}
	for _, i := range x.last {
		m.states[i].final = true
	}
	return m, api.OK
}

// Begin: the set at the beginning.
func (m *Machine) Begin() []int { return []int{0} }

// Next: where a set leads.
func (m *Machine) Next(states []int, s Symbol) []int {
	reached := make([]bool, len(m.states))
	for _, i := range states {
		for _, x := range m.moves(i, s) {
			reached[x.to] = true
		}
	}
	var l []int
	for i, ok := range reached {
		if ok {
			l = append(l, i)
		}
	}
	return l
}

// Final: is one of a set?
func (m *Machine) Final(states []int) bool {
	return slices.ContainsFunc(states, func(i int) bool { return m.has(i) && m.states[i].final })
}

// Takes: a word?
func (m *Machine) Takes(word []Symbol) bool {
	states := m.Begin()
	for i := 0; i < len(word) && len(states) > 0; i++ {
		states = m.Next(states, word[i])
	}
	return m.Final(states)
}

// States: how many there are.
func (m *Machine) States() int { return len(m.states) }

// has tells whether there is a state of that number.
func (m *Machine) has(i int) bool { return i >= 0 && i < len(m.states) }

// moves answers those of a state by a symbol.
func (m *Machine) moves(i int, s Symbol) []move {
	if !m.has(i) {
		return nil
	}
	l := m.states[i].moves
	l = l[sort.Search(len(l), func(k int) bool { return order(l[k].Symbol, s) >= 0 }):]
	return l[:sort.Search(len(l), func(k int) bool { return l[k].Symbol != s })]
}

// before tells how one move stands to another one: below 0, if it is ahead.
func before(a, b move) int { return cmp.Or(order(a.Symbol, b.Symbol), cmp.Compare(a.to, b.to)) }

// laid is what a machine has of a path: the moves that its words begin with, the states in which they end, and whether one has no symbols.
type laid struct {
	first []move
	last  []int
	empty bool
}

// lay makes the states of a path, and the moves among them.
func (m *Machine) lay(p Path) laid {
	switch p.Kind {
	case Seq:
		return m.seq(p.Parts)
	case Alt:
		return m.alt(p.Parts)
	case Star, Plus, Opt:
		return m.again(p.Kind, m.lay(p.Parts[0]))
	}
	x := move{Symbol: symbol(p), to: m.more()}
	return laid{first: []move{x}, last: []int{x.to}}
}

// seq lays parts one behind the other.
func (m *Machine) seq(parts []Path) laid {
	all := laid{empty: true}
	for _, p := range parts {
		x := m.lay(p)
		m.lead(all.last, x.first)
		if all.empty {
			all.first = append(all.first, x.first...)
		}
		if x.empty {
			x.last = append(x.last, all.last...)
		}
		all.last = x.last
		all.empty = all.empty && x.empty
	}
	return all
}

// alt lays parts beside one another.
func (m *Machine) alt(parts []Path) laid {
	var all laid
	for _, p := range parts {
		x := m.lay(p)
		all.first = append(all.first, x.first...)
		all.last = append(all.last, x.last...)
		all.empty = all.empty || x.empty
	}
	return all
}

// again lets what is laid be gone as often as a kind says.
func (m *Machine) again(kind int, x laid) laid {
	if kind != Opt {
		m.lead(x.last, x.first)
	}
	x.empty = x.empty || kind != Plus
	return x
}

// more makes one more state.
func (m *Machine) more() int {
	m.states = append(m.states, state{})
	return len(m.states) - 1
}

// lead gives moves to states, each once: loops within one another ask for the same ones.
func (m *Machine) lead(from []int, moves []move) {
	for _, i := range from {
		for _, x := range moves {
			place, there := slices.BinarySearchFunc(m.states[i].moves, x, before)
			if !there {
				m.states[i].moves = slices.Insert(m.states[i].moves, place, x)
			}
		}
	}
}
