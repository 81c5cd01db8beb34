package solution_test

import (
	"cmp"
	"slices"
	"testing"

	"beck/solution"
)

// roomy answers a table that has spare room in all its lists, in which marks stand.
func roomy(vars string, rows ...[]int) solution.Table {
	t := solution.Table{Vars: append(names(vars), "!", "!")[:len(vars)]}
	for _, row := range rows {
		t.Rows = append(t.Rows, append(slices.Clone(row), -9, -9)[:len(row)])
	}
	t.Rows = append(t.Rows, nil, nil)[:len(rows)]
	return t
}

// whole tells a table with its spare room.
func whole(t solution.Table) string {
	all := solution.Table{Vars: t.Vars[:cap(t.Vars)], Rows: slices.Clone(t.Rows[:cap(t.Rows)])}
	for i, row := range all.Rows {
		all.Rows[i] = row[:cap(row)]
	}
	return told(all)
}

// spoil writes into all that a table has, spare room included.
func spoil(t solution.Table) {
	for i := range t.Vars[:cap(t.Vars)] {
		t.Vars[:cap(t.Vars)][i] = "spoilt"
	}
	for i, row := range t.Rows {
		for k := range row[:cap(row)] {
			row[:cap(row)][k] = 100 + i
		}
	}
	for i := range t.Rows[:cap(t.Rows)] {
		t.Rows[:cap(t.Rows)][i] = nil
	}
}

// apart tells whether no two rows of a table share memory, nor its lists.
func apart(t solution.Table) bool {
	was := solution.Table{Vars: slices.Clone(t.Vars)}
	for _, row := range t.Rows {
		was.Rows = append(was.Rows, slices.Clone(row))
	}
	for i, row := range t.Rows {
		for k := range row[:cap(row)] {
			row[:cap(row)][k] = 100 + i
		}
		for k, other := range t.Rows {
			if k > i && !slices.Equal(other, was.Rows[k]) {
				return false
			}
		}
	}
	return slices.Equal(t.Vars, was.Vars)
}

// calls are all that answer a table, of two.
func calls() map[string]func(a, b solution.Table) solution.Table {
	one := func(solution.Table, []int) int { return 1 }
	return map[string]func(a, b solution.Table) solution.Table{
		"Unit":                   func(a, b solution.Table) solution.Table { return solution.Unit() },
		"Of":                     func(a, b solution.Table) solution.Table { return solution.Of(a.Vars, a.Rows...) },
		"Join":                   solution.Join,
		"Join, turned":           func(a, b solution.Table) solution.Table { return solution.Join(b, a) },
		"Join with itself":       func(a, b solution.Table) solution.Table { return solution.Join(a, a) },
		"Join with Unit":         func(a, b solution.Table) solution.Table { return solution.Join(a, solution.Unit()) },
		"Join of Unit":           func(a, b solution.Table) solution.Table { return solution.Join(solution.Unit(), a) },
		"LeftJoin":               func(a, b solution.Table) solution.Table { return solution.LeftJoin(a, b, yes) },
		"LeftJoin no":            func(a, b solution.Table) solution.Table { return solution.LeftJoin(a, b, no) },
		"LeftJoin with itself":   func(a, b solution.Table) solution.Table { return solution.LeftJoin(a, a, no) },
		"Union":                  solution.Union,
		"Union with itself":      func(a, b solution.Table) solution.Table { return solution.Union(a, a) },
		"Union with none":        func(a, b solution.Table) solution.Table { return solution.Union(a, solution.Table{}) },
		"Filter":                 func(a, b solution.Table) solution.Table { return a.Filter(yes) },
		"Filter no":              func(a, b solution.Table) solution.Table { return a.Filter(no) },
		"Extend":                 func(a, b solution.Table) solution.Table { return a.Extend("aa", one) },
		"Extend of what's there": func(a, b solution.Table) solution.Table { return a.Extend("x", one) },
		"Project":                func(a, b solution.Table) solution.Table { return a.Project(b.Vars...) },
		"Project to all":         func(a, b solution.Table) solution.Table { return a.Project(a.Vars...) },
		"Distinct":               func(a, b solution.Table) solution.Table { return a.Distinct() },
		"Sort":                   func(a, b solution.Table) solution.Table { return a.Sort(cmp.Compare[int]) },
		"Minus":                  solution.Minus,
		"Minus of alike":         func(a, b solution.Table) solution.Table { return solution.Minus(a, a.Filter(no)) },
	}
}

func twoRoomy() (a, b solution.Table) {
	return roomy("xy", []int{3, 2}, []int{-1, 3}, []int{1, 2}, []int{1, 2}, []int{9, 9}), roomy("xyz", []int{1, 2, 7}, []int{3, -1, -1}, []int{1, 2, 7})
}

// TestApart: what is handed in stays, also when what was answered is written into, and the other way round.
func TestApart(t *testing.T) {
	for name, call := range calls() {
		a, b := twoRoomy()
		wasA, wasB := whole(a), whole(b)
		got := call(a, b)
		want := told(got)
		if whole(a) != wasA || whole(b) != wasB {
			t.Errorf("P14.1: %s changes what is handed in: %s, %s", name, whole(a), whole(b))
		}
		spoil(call(a, b))
		if whole(a) != wasA || whole(b) != wasB {
			t.Errorf("P14.1: %s answers memory of what is handed in", name)
		}
		if told(call(a, b)) != want {
			t.Errorf("P14.1: %s answers otherwise again", name)
		}
		if !apart(call(a, b)) {
			t.Errorf("P14.1: rows of what %s answers share memory", name)
		}
		spoil(a)
		spoil(b)
		if told(got) != want {
			t.Errorf("P14.1: %s keeps what is handed in", name)
		}
	}
}

// TestOthersStay: calls that answer no table leave what is handed in as it is, too.
func TestOthersStay(t *testing.T) {
	a, b := twoRoomy()
	wasA, wasB := whole(a), whole(b)
	a.Good()
	a.Value(a.Rows[0], "x")
	a.Value(a.Rows[0], "z")
	solution.Same(a, b)
	solution.Same(a, a)
	if whole(a) != wasA || whole(b) != wasB {
		t.Error("P14.1: what is handed in doesn't stay")
	}
}

// TestSpoilers: a function that writes into what it is asked changes neither what was handed in nor what is answered.
func TestSpoilers(t *testing.T) {
	spoiling := func(of solution.Table, row []int) bool {
		for i := range row {
			row[i] = 77
		}
		of.Rows[0][0] = 78
		return true
	}
	for name, call := range map[string]func(a, b solution.Table, ok func(solution.Table, []int) bool) solution.Table{
		"LeftJoin": solution.LeftJoin,
		"Filter": func(a, b solution.Table, ok func(solution.Table, []int) bool) solution.Table {
			return a.Filter(ok)
		},
		"Extend": func(a, b solution.Table, ok func(solution.Table, []int) bool) solution.Table {
			return a.Extend("z", func(of solution.Table, row []int) int { ok(of, row); return 5 })
		},
	} {
		a, b := twoRoomy()
		want := told(call(a, b, yes))
		wasA, wasB := whole(a), whole(b)
		if got := told(call(a, b, spoiling)); got != want {
			t.Errorf("P14.1: %s, spoilt: %s, want %s", name, got, want)
		}
		if whole(a) != wasA || whole(b) != wasB {
			t.Errorf("P14.1: %s, spoilt, changes what is handed in", name)
		}
	}
}

// TestKept: rows that a function keeps stay as they are, whatever is done with what was answered.
func TestKept(t *testing.T) {
	a, b := twoRoomy()
	var kept [][]int
	keep := func(_ solution.Table, row []int) bool {
		kept = append(kept, row)
		return true
	}
	spoil(solution.LeftJoin(a, b, keep))
	want := solution.Join(a, b).Rows
	if told(solution.Table{Rows: kept}) != told(solution.Table{Rows: want}) {
		t.Errorf("P14.1: LeftJoin hands out %v, want %v", kept, want)
	}
	kept = nil
	spoil(a.Filter(keep))
	if told(solution.Table{Rows: kept}) != told(solution.Table{Rows: a.Rows}) {
		t.Errorf("P14.1: Filter hands out %v", kept)
	}
}

// TestWrong: tables that may not be, and functions that are none, are no promise's, but each call ends.
func TestWrong(t *testing.T) {
	wrong := []solution.Table{
		{},
		table("ba", []int{1}, []int{}, nil, []int{-7, 2, 3}),
		table("aa", []int{1, 2}, []int{-5}),
		table("zaza", []int{5}),
		{Rows: [][]int{{1}, {}, {2, 3}}},
	}
	for _, a := range wrong {
		for _, b := range wrong {
			for _, call := range calls() {
				call(a, b)
			}
			solution.Same(a, b)
			a.Value([]int{1}, "z")
			a.Value(nil, "a")
		}
		for _, v := range []string{"", "a", "b", "zz"} {
			a.Extend(v, func(solution.Table, []int) int { return 1 })
		}
	}
	a, b := twoRoomy()
	is(t, "LeftJoin without a function", solution.LeftJoin(a, b, nil), solution.LeftJoin(a, b, no))
	is(t, "Filter without a function", a.Filter(nil), table("xy"))
	is(t, "Extend without a function", table("a", []int{1}).Extend("b", nil), table("ab", []int{1, -1}))
	is(t, "Sort without a function", table("a", []int{1}, []int{0}, []int{-1}).Sort(nil), table("a", []int{-1}, []int{1}, []int{0}))
}
