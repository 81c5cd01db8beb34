package solution_test

import (
	"slices"
	"testing"

	"beck/solution"
)

func TestJoin(t *testing.T) {
	a := table("xy", []int{1, 2}, []int{-1, 3}, []int{1, 2}, []int{4, -1})
	b := table("yz", []int{2, 7}, []int{3, -1}, []int{-1, 8}, []int{2, 7})
	is(t, "Join", solution.Join(a, b), table("xyz",
		[]int{1, 2, 7}, []int{1, 2, 8}, []int{1, 2, 7},
		[]int{-1, 3, -1}, []int{-1, 3, 8},
		[]int{1, 2, 7}, []int{1, 2, 8}, []int{1, 2, 7},
		[]int{4, 2, 7}, []int{4, 3, -1}, []int{4, -1, 8}, []int{4, 2, 7}))
	is(t, "Join", solution.Join(b, a), table("xyz",
		[]int{1, 2, 7}, []int{1, 2, 7}, []int{4, 2, 7},
		[]int{-1, 3, -1}, []int{4, 3, -1},
		[]int{1, 2, 8}, []int{-1, 3, 8}, []int{1, 2, 8}, []int{4, -1, 8},
		[]int{1, 2, 7}, []int{1, 2, 7}, []int{4, 2, 7}))
	is(t, "Join of nothing in common", solution.Join(table("b", []int{1}, []int{2}), table("a", []int{1}, []int{0})), table("ab", []int{1, 1}, []int{0, 1}, []int{1, 2}, []int{0, 2}))
	is(t, "Join of none", solution.Join(table("ab"), b), table("abyz"))
	is(t, "Join with none", solution.Join(b, table("ay")), table("ayz"))
	is(t, "Join with what has neither", solution.Join(a, solution.Table{}), table("xy"))
	is(t, "Join without vars", solution.Join(table("", []int{}, []int{}), table("", []int{}, []int{}, []int{})), table("", []int{}, []int{}, []int{}, []int{}, []int{}, []int{}))
	is(t, "Join of what stands for nothing", solution.Join(table("a", []int{-1}, []int{0}), table("a", []int{-1}, []int{0}, []int{1})), table("a", []int{-1}, []int{0}, []int{1}, []int{0}, []int{0}))
}

// TestJoinOfSome: a row is compatible only if each var is.
func TestJoinOfSome(t *testing.T) {
	a := table("abc", []int{1, 2, 3})
	b := table("abcd", []int{1, 2, 3, 0}, []int{2, 2, 3, 1}, []int{1, 1, 3, 2}, []int{1, 2, 0, 3}, []int{-1, 2, 3, 4}, []int{1, -1, 3, 5}, []int{1, 2, -1, 6}, []int{-1, -1, -1, 7}, []int{-1, -1, 0, 8})
	is(t, "Join", solution.Join(a, b), table("abcd", []int{1, 2, 3, 0}, []int{1, 2, 3, 4}, []int{1, 2, 3, 5}, []int{1, 2, 3, 6}, []int{1, 2, 3, 7}))
}

func TestLeftJoin(t *testing.T) {
	a := table("xy", []int{1, 2}, []int{-1, 3}, []int{5, 6}, []int{1, 2})
	b := table("yz", []int{2, 7}, []int{3, 8}, []int{2, 9}, []int{-1, 7})
	above := func(n int) func(solution.Table, []int) bool {
		return func(of solution.Table, row []int) bool { return of.Value(row, "z") > n }
	}
	is(t, "LeftJoin", solution.LeftJoin(a, b, yes), solution.Join(a, b))
	is(t, "LeftJoin", solution.LeftJoin(a, b, above(7)), table("xyz", []int{1, 2, 9}, []int{-1, 3, 8}, []int{5, 6, -1}, []int{1, 2, 9}))
	is(t, "LeftJoin", solution.LeftJoin(a, b, above(8)), table("xyz", []int{1, 2, 9}, []int{-1, 3, -1}, []int{5, 6, -1}, []int{1, 2, 9}))
	is(t, "LeftJoin no", solution.LeftJoin(a, b, no), table("xyz", []int{1, 2, -1}, []int{-1, 3, -1}, []int{5, 6, -1}, []int{1, 2, -1}))
	is(t, "LeftJoin with none", solution.LeftJoin(a, table("wy"), yes), table("wxy", []int{-1, 1, 2}, []int{-1, -1, 3}, []int{-1, 5, 6}, []int{-1, 1, 2}))
	is(t, "LeftJoin with what isn't compatible", solution.LeftJoin(a, table("y", []int{0}), yes), a)
	is(t, "LeftJoin of none", solution.LeftJoin(table("a"), b, yes), table("ayz"))
	is(t, "LeftJoin with Unit", solution.LeftJoin(a, solution.Unit(), no), a)
	is(t, "LeftJoin of Unit", solution.LeftJoin(solution.Unit(), b, above(8)), table("yz", []int{2, 9}))
	is(t, "LeftJoin of Unit", solution.LeftJoin(solution.Unit(), b, above(9)), table("yz", []int{-1, -1}))
	is(t, "LeftJoin of one more", solution.LeftJoin(table("a", []int{-1}), table("a", []int{4}), yes), table("a", []int{4}))
}

// TestLeftJoinAsks: what is asked is asked of each row that Join has, in order, as one of a table of its vars.
func TestLeftJoinAsks(t *testing.T) {
	a := table("xy", []int{1, 2}, []int{-1, 3}, []int{5, 6}, []int{1, 2})
	b := table("yz", []int{2, 7}, []int{3, 8}, []int{2, 9}, []int{-1, 7})
	want := solution.Join(a, b)
	asked := solution.Table{Vars: want.Vars}
	solution.LeftJoin(a, b, func(of solution.Table, row []int) bool {
		if !of.Good() || !slices.Equal(of.Vars, want.Vars) || of.Value(row, "z") != row[2] {
			t.Errorf("P14.1: LeftJoin asks of %s", told(of))
		}
		asked.Rows = append(asked.Rows, row)
		return len(asked.Rows)%2 == 0
	})
	is(t, "LeftJoin asks", asked, want)
}

// counted answers a table of many rows, by what they are to have.
func counted(vars string, many int, of func(i int) []int) solution.Table {
	x := solution.Table{Vars: names(vars)}
	for i := range many {
		x.Rows = append(x.Rows, of(i))
	}
	return x
}

// TestManyRows: tables as great as later layers allow are joined, in order, by vars of which one is alike in all rows, or stands for nothing in some.
func TestManyRows(t *testing.T) {
	const many = 20000
	a := counted("abc", many, func(i int) []int { return []int{7, i, -1} })
	b := counted("abcd", many, func(i int) []int { return []int{7, many - 1 - i, i % 9, i} })
	is(t, "Join of many", solution.Join(a, b), counted("abcd", many, func(i int) []int { return []int{7, i, (many - 1 - i) % 9, many - 1 - i} }))
	b.Rows[100][1], b.Rows[19000][1] = -1, -1
	got := solution.Join(a, b)
	if len(got.Rows) != many-2+2*many {
		t.Fatalf("P14.1: Join of many: %d rows", len(got.Rows))
	}
	for i, n := range []int{100, 19000, many - 1} {
		if got.Value(got.Rows[i], "b") != 0 || got.Value(got.Rows[i], "d") != n {
			t.Errorf("P14.1: Join of many: row %d is %v", i, got.Rows[i])
		}
	}
	b.Rows[300][0] = 8
	if again := solution.LeftJoin(a, b, yes); len(again.Rows) != many-3+2*many || !solution.Same(again, solution.Join(a, b)) {
		t.Errorf("P14.1: LeftJoin of many: %d rows", len(again.Rows))
	}
	none := counted("b", many, func(i int) []int { return []int{many + i} })
	is(t, "LeftJoin with none of many", solution.LeftJoin(a, none, yes), a)
	if !solution.Same(got.Distinct(), got) || len(solution.Union(a, a).Distinct().Rows) != many {
		t.Error("P14.1: Distinct of many")
	}
	is(t, "Minus of many", solution.Minus(solution.Union(a, a), a), a)
}

// TestManyVars: tables of many vars are joined, too.
func TestManyVars(t *testing.T) {
	var vars []string
	var row []int
	for i := range 3000 {
		vars = append(vars, string(rune(0x4e00+i*2)))
		row = append(row, i%5-1)
	}
	a, b := solution.Of(vars[:2000], row[:2000]), solution.Of(vars[1000:], row[1000:])
	is(t, "Join of many vars", solution.Join(a, b), solution.Of(vars, row))
	b.Rows[0][999] += 7
	if got := solution.Join(a, b); len(got.Vars) != 3000 || len(got.Rows) != 0 {
		t.Errorf("P14.1: Join of many vars: %d rows", len(got.Rows))
	}
}
