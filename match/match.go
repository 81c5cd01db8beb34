// Package match tells which rows of two tables go together, without putting them together: so what comes out may be counted before it is made. Rows have numbers from 0 on, each in the column of a var; below 0 the var stands for nothing there.
package match

import (
	"iter"
	"slices"
)

// Columns tells where vars stand first in a list, -1 of those that don't.
func Columns(vars, in []string) []int {
	first := map[string]int{}
	for column, v := range slices.Backward(in) {
		first[v] = column
	}
	l := make([]int, 0, len(vars))
	for _, v := range vars {
		column, there := first[v]
		if !there {
			column = -1
		}
		l = append(l, column)
	}
	return l
}

// Number answers what stands in a column of a row; there is nothing beyond its end.
func Number(row []int, column int) int {
	if column < 0 || column >= len(row) {
		return -1
	}
	return max(row[column], -1)
}

// Finder answers a closure that gives, of a row of the vars on the left, the places of those rows of the vars on the right that are compatible with it, rising.
func Finder(left, right []string, rows [][]int) func(x []int) iter.Seq[int] {
	both := shared(left, right)
	places := candidates(rows, both)
	return func(x []int) iter.Seq[int] {
		return func(yield func(place int) bool) {
			for _, place := range places(x) {
				if compatible(x, rows[place], both) && !yield(place) {
					return
				}
			}
		}
	}
}

// pair is where a var stands that both have: its columns on the left and on the right.
type pair struct{ left, right int }

func shared(a, b []string) []pair {
	var l []pair
	for left, right := range Columns(a, b) {
		if right >= 0 {
			l = append(l, pair{left, right})
		}
	}
	return l
}

func compatible(x, y []int, both []pair) bool {
	return !slices.ContainsFunc(both, func(p pair) bool {
		m, n := Number(x, p.left), Number(y, p.right)
		return m >= 0 && n >= 0 && m != n
	})
}

// candidates answers a closure that tells, of a row on the left, the places of those rows that may be compatible, rising. It goes by one var that both have, that by which the fewest rows are alike: where there are many rows, to look at all of them for each one on the left takes too long.
func candidates(rows [][]int, both []pair) func(x []int) []int {
	all := make([]int, len(rows))
	for place := range all {
		all[place] = place
	}
	var column, fewest int
	var best map[int][]int
	for _, p := range both {
		by := byNumber(rows, p.right)
		if many := mostAlike(by); best == nil || many < fewest {
			column, best, fewest = p.left, by, many
		}
	}
	return func(x []int) []int {
		n := Number(x, column)
		if best == nil || n < 0 {
			return all
		}
		return merged(best[n], best[-1])
	}
}

// byNumber answers the places of rows by what stands in a column of them.
func byNumber(rows [][]int, column int) map[int][]int {
	by := map[int][]int{}
	for place, row := range rows {
		n := Number(row, column)
		by[n] = append(by[n], place)
	}
	return by
}

// mostAlike tells how many rows are looked at for one number at most: those that have it, and those that have nothing there.
func mostAlike(by map[int][]int) int {
	most := 0
	for n, places := range by {
		if n >= 0 {
			most = max(most, len(places))
		}
	}
	return most + len(by[-1])
}

// merged puts two rising lists into one, which is one of them if the other one is empty.
func merged(a, b []int) []int {
	switch {
	case len(b) == 0:
		return a
	case len(a) == 0:
		return b
	}
	l := make([]int, 0, len(a)+len(b))
	for _, n := range a {
		for len(b) > 0 && b[0] < n {
			l = append(l, b[0])
			b = b[1:]
		}
		l = append(l, n)
	}
	return append(l, b...)
}
