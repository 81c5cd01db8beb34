package solution

import (
	"iter"
	"slices"
)

// Join: each with each that is compatible.
func Join(a, b Table) Table {
	t := Table{Vars: rising(a.Vars, b.Vars)}
	joined := joiner(t.Vars, a, b)
	for _, x := range a.Rows {
		t.Rows = slices.AppendSeq(t.Rows, joined(x))
	}
	return t
}

// LeftJoin: likewise, and those that have none by themselves.
func LeftJoin(a, b Table, ok func(t Table, row []int) bool) Table {
	t := Table{Vars: rising(a.Vars, b.Vars)}
	joined, alone := joiner(t.Vars, a, b), maker(t.Vars, a.Vars)
	asked := t.copied() // ok may write into what it is asked of, so that it has but the row, and a copy of that
	for _, x := range a.Rows {
		ahead := len(t.Rows)
		for row := range joined(x) {
			asked.Rows = [][]int{slices.Clone(row)}
			if ok != nil && ok(asked, asked.Rows[0]) {
				t.Rows = append(t.Rows, row)
			}
		}
		if len(t.Rows) == ahead {
			t.Rows = append(t.Rows, alone(x))
		}
	}
	return t
}

// joiner answers a closure that joins a row of a with each row of b that is compatible, in order.
func joiner(vars []string, a, b Table) func(x []int) iter.Seq[[]int] {
	rowOf, both := maker(vars, a.Vars, b.Vars), shared(a, b)
	places := finder(b.Rows, both)
	return func(x []int) iter.Seq[[]int] {
		return func(yield func([]int) bool) {
			for _, place := range places(x) {
				y := b.Rows[place]
				if compatible(x, y, both) && !yield(rowOf(x, y)) {
					return
				}
			}
		}
	}
}

// pair is where a var stands that two tables have: its columns in the left and the right one.
type pair struct{ left, right int }

func shared(a, b Table) []pair {
	var l []pair
	for left, right := range columns(a.Vars, b.Vars) {
		if right >= 0 {
			l = append(l, pair{left, right})
		}
	}
	return l
}

func compatible(x, y []int, both []pair) bool {
	return !slices.ContainsFunc(both, func(p pair) bool {
		m, n := number(x, p.left), number(y, p.right)
		return m >= 0 && n >= 0 && m != n
	})
}

// finder answers a closure that tells, of a row on the left, the places of those rows that may be compatible, rising. It goes by one var that both have, that by which the fewest rows are alike: where there are many rows, to look at all of them for each one on the left takes too long.
func finder(rows [][]int, both []pair) func(x []int) []int {
	all := make([]int, len(rows))
	for place := range all {
		all[place] = place
	}
	var column int
	var best map[int][]int
	fewest := len(rows)
	for _, p := range both {
		by := byNumber(rows, p.right)
		if many := mostAlike(by); many < fewest {
			column, best, fewest = p.left, by, many
		}
	}
	return func(x []int) []int {
		n := number(x, column)
		if best == nil || n < 0 {
			return all
		}
		return merged(best[n], best[-1])
	}
}

// byNumber answers the places of rows by what stands in a column of them.
func byNumber(rows [][]int, column int) map[int][]int {
	by := map[int][]int{}
	for place, row := range rows {
		n := number(row, column)
		by[n] = append(by[n], place)
	}
	return by
}

// mostAlike tells how many rows are looked at for one number at most: those that have it, and those that have nothing there.
func mostAlike(by map[int][]int) int {
	most := 0
	for n, places := range by {
		if n >= 0 {
			most = max(most, len(places))
		}
	}
	return most + len(by[-1])
}

// merged puts two rising lists into one.
func merged(a, b []int) []int {
	l := make([]int, 0, len(a)+len(b))
	for _, n := range a {
		for len(b) > 0 && b[0] < n {
			l = append(l, b[0])
			b = b[1:]
		}
		l = append(l, n)
	}
	return append(l, b...)
}
