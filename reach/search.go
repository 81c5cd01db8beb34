package reach

import (
	"cmp"
	"slices"
)

// search looks for all that walks from one node come to: nodes, and states of the machine there. It marks the nodes themselves, so that it takes no longer than what it comes to asks for, however many nodes there are.
type search struct {
	*Forest
	level int     // steps that last until below it aren't gone yet
	todo  []*node // the nodes that have fresh states
	met   []*node // those that were come to
	found []found
}

// found is a node that was come to in a final state, and the level at that time.
type found struct {
	*node
	until int
}

// reached answers the nodes that one is paired with, however long the pairs last.
func (f *Forest) reached(number int) []found {
	x := f.nodes[number]
	if x == nil {
		return nil
	}
	s := search{Forest: f}
	s.begin(x, earliest)
	s.end()
	return s.found
}

// falling answers all steps, those that last longest first.
func (f *Forest) falling() []step {
	var l []step
	for _, x := range f.list {
		l = append(l, x.steps...)
	}
	slices.SortFunc(l, func(a, b step) int { return cmp.Compare(b.until, a.until) })
	return l
}

// begin comes to a node without a step, and goes on by all steps of a level.
func (s *search) begin(x *node, level int) {
	s.found = nil
	s.level = level
	s.arrive(x, setOf(s.Begin()))
	s.goOn()
}

// end takes all marks away, so that another search may begin.
func (s *search) end() {
	for _, x := range s.met {
		x.come = states{}
	}
	s.met = s.met[:0]
}

// fall lowers the level step by step. A node is come to in a state at the first level that lets it be, so that the level tells how long the walk lasts that lasts longest.
func (s *search) fall(steps []step) {
	for _, x := range steps {
		if !x.from.come.none() {
			s.level = x.until
			s.take(x, x.from.come)
			s.goOn()
		}
	}
}

// goOn goes all steps of the level, from wherever they weren't gone yet.
func (s *search) goOn() {
	for len(s.todo) > 0 {
		last := len(s.todo) - 1
		x := s.todo[last]
		s.todo = s.todo[:last]
		fresh := x.fresh
		x.fresh = states{}
		for _, y := range x.steps {
			if y.until >= s.level {
				s.take(y, fresh)
			}
		}
	}
}

// take goes a step from some states.
func (s *search) take(x step, from states) { s.arrive(x.to, from.next(s.moves[x.symbol])) }

// arrive comes to a node in some states.
func (s *search) arrive(x *node, in states) {
	in = in.but(x.come)
	if in.none() {
		return
	}
	if in.meets(s.final) && !x.come.meets(s.final) {
		s.found = append(s.found, found{node: x, until: s.level})
	}
	if x.come.none() {
		s.met = append(s.met, x)
	}
	if x.fresh.none() {
		s.todo = append(s.todo, x)
	}
	x.come = x.come.and(in)
	x.fresh = x.fresh.and(in)
}
