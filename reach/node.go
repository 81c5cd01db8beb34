package reach

import (
	"slices"

	"beck/dict"
	"beck/nfa"
)

// node is one of a forest's.
type node struct {
	number int
	place  int    // in the forest's list
	ends   int    // how many ends of edges it is: two of one that leads to itself
	steps  []step // those from it, in no order
	come   states // in which a search has come to it; none between searches
	fresh  states // those of these from which steps weren't gone yet
}

// step leads from one node to another by a symbol that stands in the path: it is an edge, gone or gone back.
type step struct {
	from, to *node
	symbol   int // its place among the path's
	until    int
}

// put makes that an edge is there until a time, or until the one that it had, if that is later.
func (f *Forest) put(k dict.Key, until int) {
	if until < f.horizon {
		return
	}
	old, there := f.edges[k]
	if there && old >= until {
		return
	}
	if there {
		f.drop(k)
	}
	f.edges[k] = until
	from, to := f.join(k[0]), f.join(k[2])
	f.lead(from, to, nfa.Symbol{N: k[1]}, until)
	f.lead(to, from, nfa.Symbol{N: k[1], Back: true}, until)
}

// drop takes away an edge that is there.
func (f *Forest) drop(k dict.Key) {
	delete(f.edges, k)
	from, to := f.nodes[k[0]], f.nodes[k[2]]
	f.cut(from, to, nfa.Symbol{N: k[1]})
	f.cut(to, from, nfa.Symbol{N: k[1], Back: true})
	f.leave(from)
	f.leave(to)
}

// join answers the node of a number, which is an end more often now.
func (f *Forest) join(number int) *node {
	x := f.nodes[number]
	if x == nil {
		x = &node{number: number, place: len(f.list)}
		f.nodes[number] = x
		f.list = append(f.list, x)
	}
	x.ends++
	return x
}

// leave makes a node an end less often. One that is none any more is gone, and the last one of the list stands at its place.
func (f *Forest) leave(x *node) {
	x.ends--
	if x.ends > 0 {
		return
	}
	delete(f.nodes, x.number)
	last := len(f.list) - 1
	f.list[x.place] = f.list[last]
	f.list[x.place].place = x.place
	f.list[last] = nil // lest the list's spare room keep it
	f.list = f.list[:last]
}

// lead makes a step, if its symbol stands in the path.
func (f *Forest) lead(from, to *node, s nfa.Symbol, until int) {
	if i := slices.Index(f.symbols, s); i >= 0 {
		from.steps = append(from.steps, step{from: from, to: to, symbol: i, until: until})
	}
}

// cut takes a step away, if there is one.
func (f *Forest) cut(from, to *node, s nfa.Symbol) {
	symbol := slices.Index(f.symbols, s)
	from.steps = slices.DeleteFunc(from.steps, func(x step) bool { return x.to == to && x.symbol == symbol })
}
