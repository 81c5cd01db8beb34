package algebra

import (
	"iter"
	"slices"

	"beck/api"
	"beck/dict"
	"beck/nfa"
	"beck/reach"
	"beck/store"
)

// maxEdges is how many edges a path may have.
const maxEdges = 10000

// pairs gives those pairs of a path whose nodes fit a pattern's subject and object, once each, as keys. Of a path that may not be it answers chapter 10's error.
//
// There may be far more pairs in all than a table may have rows. So they are looked for from one node to the next, and if the pattern asks for a node, from that alone, even if this is to go backwards.
func (e evaluation) pairs(path nfa.Path, p store.Pattern) (iter.Seq2[dict.Key, int], api.Errno) {
	if code := nfa.Check(path); code != api.OK {
		return nil, code
	}
	from, to := 0, 2
	if p[from] == anyNumber && p[to] != anyNumber {
		path, from, to = path.Turned(), to, from
	}
	f, nodes, code := e.forest(path)
	if code != api.OK {
		return nil, code
	}
	if p[from] != anyNumber {
		nodes = []int{p[from]}
	}
	return func(yield func(k dict.Key, many int) bool) {
		for _, x := range nodes {
			for _, y := range f.From(x) {
				var k dict.Key
				k[from], k[to] = x, y
				if p.Fits(k) && !yield(k, 1) {
					return
				}
			}
		}
	}, api.OK
}

// forest answers a path's, of which all keys are edges, and its nodes, rising.
func (e evaluation) forest(path nfa.Path) (*reach.Forest, []int, api.Errno) {
	f, code := reach.New(path, maxEdges)
	if code != api.OK {
		return nil, nil, code
	}
	var nodes []int
	for k := range e.triples(store.Pattern{anyNumber, anyNumber, anyNumber}) {
		if f.Add(k, reach.Forever) != api.OK {
			return nil, nil, api.ErrMany
		}
		nodes = append(nodes, k[0], k[2])
	}
	slices.Sort(nodes)
	return f, slices.Compact(nodes), api.OK
}
