package solution

import (
	"iter"
	"slices"

	"beck/match"
)

// Join: each with each that is compatible.
func Join(a, b Table) Table {
	t := Table{Vars: rising(a.Vars, b.Vars)}
	joined := joiner(t.Vars, a, b)
	for _, x := range a.Rows {
		t.Rows = slices.AppendSeq(t.Rows, joined(x))
	}
	return t
}

// LeftJoin: likewise, and those that have none by themselves.
func LeftJoin(a, b Table, ok func(t Table, row []int) bool) Table {
	t := Table{Vars: rising(a.Vars, b.Vars)}
	joined, alone := joiner(t.Vars, a, b), maker(t.Vars, a.Vars)
	asked := t.copied() // ok may write into what it is asked of, so that it has but the row, and a copy of that
	for _, x := range a.Rows {
		ahead := len(t.Rows)
		for row := range joined(x) {
			asked.Rows = [][]int{slices.Clone(row)}
			if ok != nil && ok(asked, asked.Rows[0]) {
				t.Rows = append(t.Rows, row)
			}
		}
		if len(t.Rows) == ahead {
			t.Rows = append(t.Rows, alone(x))
		}
	}
	return t
}

// joiner answers a closure that joins a row of a with each row of b that is compatible, in order.
func joiner(vars []string, a, b Table) func(x []int) iter.Seq[[]int] {
	rowOf, partners := maker(vars, a.Vars, b.Vars), match.Finder(a.Vars, b.Vars, b.Rows)
	return func(x []int) iter.Seq[[]int] {
		return func(yield func([]int) bool) {
			for place := range partners(x) {
				if !yield(rowOf(x, b.Rows[place])) {
					return
				}
			}
		}
	}
}
