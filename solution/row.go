package solution

import (
	"cmp"
	"slices"
	"strconv"

	"beck/match"
)

// rising puts vars together, each once.
func rising(lists ...[]string) []string {
	vars := slices.Concat(lists...)
	slices.Sort(vars)
	return slices.Compact(vars)
}

// maker answers a closure that makes a row of vars out of rows, one of each of some lists of vars: a var has the number of the first one in which it stands for something.
func maker(vars []string, lists ...[]string) func(rows ...[]int) []int {
	var from [][]int
	for _, list := range lists {
		from = append(from, match.Columns(vars, list))
	}
	return func(rows ...[]int) []int {
		made := slices.Repeat([]int{-1}, len(vars))
		for i, row := range rows {
			for place, column := range from[i] {
				if made[place] < 0 {
					made[place] = match.Number(row, column)
				}
			}
		}
		return made
	}
}

// key answers a text that rows have in common if they are the same.
func key(row []int) string {
	var b []byte
	for _, n := range row {
		b = append(strconv.AppendInt(b, int64(n), 10), ' ')
	}
	return string(b)
}

// nothingAhead answers an order of numbers in which -1 is ahead of all. Without an order of the others they are alike.
func nothingAhead(order func(a, b int) int) func(a, b int) int {
	return func(a, b int) int {
		if order == nil || a < 0 || b < 0 {
			return cmp.Compare(min(a, 0), min(b, 0))
		}
		return order(a, b)
	}
}
