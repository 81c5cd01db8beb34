package algebra

import (
	"iter"
	"math"
	"slices"

	"beck/api"
	"beck/check"
	"beck/dict"
	"beck/nfa"
	"beck/solution"
	"beck/store"
	"beck/syntax"
	"beck/term"
)

const (
	// anyNumber stands in a pattern for any number.
	anyNumber = -1
	// noNumber is that of terms that the dictionary doesn't have: it is no key's.
	noNumber = math.MaxInt
)

// triple answers the table of a triple's vars.
func (e evaluation) triple(x syntax.Item) (solution.Table, api.Errno) {
	p := store.Pattern{e.asked(x.S), anyNumber, e.asked(x.O)}
	switch {
	case x.P.Var != "":
	case x.Path.Kind == nfa.Step:
		p[1] = e.predicate(x.Path.IRI)
	default:
		pairs, code := e.pairs(check.Number(x.Path, e.predicate), p)
		if code != api.OK {
			return solution.Table{}, code
		}
		return tableOf(x, pairs)
	}
	return tableOf(x, e.triples(p))
}

// asked answers what a pattern asks for in the place of a node.
func (e evaluation) asked(n syntax.Node) int {
	if n.Var != "" {
		return anyNumber
	}
	return e.number(n.Term)
}

func (e evaluation) predicate(iri string) int { return e.number(term.IRI{Text: iri}) }

// number answers a term's. What a query speaks of isn't put into the dictionary by that.
func (e evaluation) number(t term.Term) int {
	n, code := e.Dict.Find(t)
	if code != api.OK {
		return noNumber
	}
	return n
}

// tableOf answers the table of a triple's vars, of keys that fit its terms, each as often as it is there.
func tableOf(x syntax.Item, fitting iter.Seq2[dict.Key, int]) (solution.Table, api.Errno) {
	var vars []string
	var places []int
	for place, v := range [...]string{x.S.Var, x.P.Var, x.O.Var} {
		if v != "" {
			vars, places = append(vars, v), append(places, place)
		}
	}
	var rows [][]int
	for k, many := range fitting {
		var row []int
		for _, place := range places {
			row = append(row, k[place])
		}
		if !alike(vars, row) {
			continue
		}
		if many > MaxRows-len(rows) {
			return solution.Table{}, api.ErrMany
		}
		for range many {
			rows = append(rows, row)
		}
	}
	return solution.Of(vars, rows...), api.OK
}

// alike tells whether each var stands for the same wherever it stands.
func alike(vars []string, row []int) bool {
	for i, v := range vars {
		if row[i] != row[slices.Index(vars, v)] {
			return false
		}
	}
	return true
}
