package solution

import (
	"cmp"
	"slices"
	"strconv"
)

// rising puts vars together, each once.
func rising(lists ...[]string) []string {
	vars := slices.Concat(lists...)
	slices.Sort(vars)
	return slices.Compact(vars)
}

// columns tells where vars stand first in a list, -1 of those that don't.
func columns(vars, in []string) []int {
	first := map[string]int{}
	for column, v := range slices.Backward(in) {
		first[v] = column
	}
	l := make([]int, 0, len(vars))
	for _, v := range vars {
		column, there := first[v]
		if !there {
			column = -1
		}
		l = append(l, column)
	}
	return l
}

// number answers what stands in a column of a row; there is nothing beyond its end.
func number(row []int, column int) int {
	if column < 0 || column >= len(row) {
		return -1
	}
	return max(row[column], -1)
}

// maker answers a closure that makes a row of vars out of rows, one of each of some lists of vars: a var has the number of the first one in which it stands for something.
func maker(vars []string, lists ...[]string) func(rows ...[]int) []int {
	var from [][]int
	for _, list := range lists {
		from = append(from, columns(vars, list))
	}
	return func(rows ...[]int) []int {
		made := slices.Repeat([]int{-1}, len(vars))
		for i, row := range rows {
			for place, column := range from[i] {
				if made[place] < 0 {
					made[place] = number(row, column)
				}
			}
		}
		return made
	}
}

// key answers a text that rows have in common if they are the same.
func key(row []int) string {
	var b []byte
	for _, n := range row {
		b = append(strconv.AppendInt(b, int64(n), 10), ' ')
	}
	return string(b)
}

// nothingAhead answers an order of numbers in which -1 is ahead of all. Without an order of the others they are alike.
func nothingAhead(order func(a, b int) int) func(a, b int) int {
	return func(a, b int) int {
		if order == nil || a < 0 || b < 0 {
			return cmp.Compare(min(a, 0), min(b, 0))
		}
		return order(a, b)
	}
}
