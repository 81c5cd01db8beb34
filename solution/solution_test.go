package solution_test

import (
	"cmp"
	"fmt"
	"math"
	"slices"
	"strings"
	"testing"

	"beck/solution"
)

// names answers vars of which each is one sign.
func names(s string) []string { return strings.Split(s, "") }

// table answers one of given vars and rows as they are.
func table(vars string, rows ...[]int) solution.Table {
	return solution.Table{Vars: names(vars), Rows: rows}
}

func told(t solution.Table) string { return fmt.Sprintf("%q %v", t.Vars, t.Rows) }

func is(t *testing.T, what string, got, want solution.Table) {
	t.Helper()
	if told(got) != told(want) {
		t.Errorf("P14.1: %s: %s, want %s", what, told(got), told(want))
	}
	if !got.Good() {
		t.Errorf("P14.1: %s: %s may not be", what, told(got))
	}
}

func yes(solution.Table, []int) bool { return true }
func no(solution.Table, []int) bool  { return false }

// TestExample is the chapter's: joined with Unit a table is itself.
func TestExample(t *testing.T) {
	for _, x := range []solution.Table{
		table("xy", []int{1, -1}, []int{0, 7}, []int{1, -1}, []int{-1, -1}),
		table("x"),
		table("", []int{}, []int{}),
		{},
		solution.Unit(),
	} {
		is(t, "Join with Unit", solution.Join(x, solution.Unit()), x)
		is(t, "Join of Unit", solution.Join(solution.Unit(), x), x)
	}
}

func TestUnit(t *testing.T) {
	is(t, "Unit", solution.Unit(), table("", []int{}))
}

func TestOf(t *testing.T) {
	for _, c := range []struct {
		vars string
		rows [][]int
		want solution.Table
	}{
		{"", nil, solution.Table{}},
		{"", [][]int{{}, nil, {3}}, table("", []int{}, []int{}, []int{})},
		{"b", nil, table("b")},
		{"ba", [][]int{{1, 2}, {1, 2}, {0, 3}}, table("ab", []int{2, 1}, []int{2, 1}, []int{3, 0})},
		{"cab", [][]int{{}, {1}, {1, 2}, {1, 2, 3}, {1, 2, 3, 4}}, table("abc", []int{-1, -1, -1}, []int{-1, -1, 1}, []int{2, -1, 1}, []int{2, 3, 1}, []int{2, 3, 1})},
		{"ba", [][]int{{-1, -2}, {math.MinInt, math.MaxInt}}, table("ab", []int{-1, -1}, []int{math.MaxInt, -1})},
		{"bab", [][]int{{1, 2, 3}, {-1, 2, 3}, {-5, 2, 3}}, table("ab", []int{2, 1}, []int{2, -1}, []int{2, -1})},
		{"aaa", [][]int{{1, 2, 3}, {}, {4}}, table("a", []int{1}, []int{-1}, []int{4})},
	} {
		is(t, "Of "+c.vars, solution.Of(names(c.vars), c.rows...), c.want)
	}
	is(t, "Of nil", solution.Of(nil), solution.Table{})
}

// TestBytes: vars rise byte by byte.
func TestBytes(t *testing.T) {
	got := solution.Of([]string{"é", "a1", "Z", "a", "", "b", "_"}, []int{1, 2, 3, 4, 5, 6, 7})
	is(t, "Of", got, solution.Table{Vars: []string{"", "Z", "_", "a", "a1", "b", "é"}, Rows: [][]int{{5, 3, 7, 4, 2, 6, 1}}})
	for _, v := range got.Vars {
		rest := slices.DeleteFunc(slices.Clone(got.Vars), func(w string) bool { return v == w })
		n := got.Value(got.Rows[0], v)
		is(t, "Extend", got.Project(rest...).Extend(v, func(solution.Table, []int) int { return n }), got)
	}
}

func TestGood(t *testing.T) {
	for _, c := range []struct {
		x    solution.Table
		want bool
	}{
		{solution.Table{}, true},
		{solution.Table{Vars: []string{}, Rows: [][]int{{}, nil}}, true},
		{solution.Unit(), true},
		{table("a"), true},
		{table("abc", []int{0, -1, math.MaxInt}, []int{-1, -1, -1}, []int{-1, -1, -1}), true},
		{solution.Table{Vars: []string{"", "B", "a", "aa"}}, true},
		{table("ba"), false},
		{table("aa"), false},
		{table("abb"), false},
		{table("acb", []int{1, 2, 3}), false},
		{solution.Table{Vars: []string{"a", "B"}}, false},
		{solution.Table{Vars: []string{"aa", "a"}}, false},
		{table("", []int{0}), false},
		{table("a", []int{}), false},
		{table("a", nil), false},
		{table("ab", []int{1, 2}, []int{1}), false},
		{table("ab", []int{1, 2, 3}), false},
		{table("a", []int{-2}), false},
		{table("ab", []int{1, 2}, []int{1, math.MinInt}), false},
	} {
		if got := c.x.Good(); got != c.want {
			t.Errorf("P14.1: Good of %s: %t", told(c.x), got)
		}
	}
}

func TestValue(t *testing.T) {
	x := table("bdf", []int{5, -1, 0}, []int{1, 2, math.MaxInt})
	for v, want := range map[string][]int{
		"b": {5, 1}, "d": {-1, 2}, "f": {0, math.MaxInt},
		"a": {-1, -1}, "c": {-1, -1}, "e": {-1, -1}, "g": {-1, -1}, "": {-1, -1}, "bb": {-1, -1}, "B": {-1, -1},
	} {
		for i, row := range x.Rows {
			if got := x.Value(row, v); got != want[i] {
				t.Errorf("P14.1: Value of %q in row %d: %d, want %d", v, i, got, want[i])
			}
		}
	}
	if got := solution.Unit().Value([]int{}, "a"); got != -1 {
		t.Errorf("P14.1: Value in Unit: %d", got)
	}
}

func TestUnion(t *testing.T) {
	a := table("xy", []int{1, 2}, []int{-1, 3}, []int{1, 2})
	b := table("wyz", []int{1, 2, 3}, []int{0, -1, 0})
	is(t, "Union", solution.Union(a, b), table("wxyz", []int{-1, 1, 2, -1}, []int{-1, -1, 3, -1}, []int{-1, 1, 2, -1}, []int{1, -1, 2, 3}, []int{0, -1, -1, 0}))
	is(t, "Union", solution.Union(b, a), table("wxyz", []int{1, -1, 2, 3}, []int{0, -1, -1, 0}, []int{-1, 1, 2, -1}, []int{-1, -1, 3, -1}, []int{-1, 1, 2, -1}))
	is(t, "Union with itself", solution.Union(b, b), table("wyz", []int{1, 2, 3}, []int{0, -1, 0}, []int{1, 2, 3}, []int{0, -1, 0}))
	is(t, "Union with none", solution.Union(a, solution.Table{}), a)
	is(t, "Union of none", solution.Union(solution.Table{}, a), a)
	is(t, "Union without rows", solution.Union(a, table("a")), table("axy", []int{-1, 1, 2}, []int{-1, -1, 3}, []int{-1, 1, 2}))
	is(t, "Union of Units", solution.Union(solution.Unit(), solution.Unit()), table("", []int{}, []int{}))
	is(t, "Union with Unit", solution.Union(table("a", []int{1}), solution.Unit()), table("a", []int{1}, []int{-1}))
}

func TestFilter(t *testing.T) {
	x := table("ab", []int{3, 1}, []int{-1, 1}, []int{2, 1}, []int{3, 1})
	has := func(v string, n int) func(solution.Table, []int) bool {
		return func(of solution.Table, row []int) bool { return of.Value(row, v) == n }
	}
	is(t, "Filter", x.Filter(has("a", 3)), table("ab", []int{3, 1}, []int{3, 1}))
	is(t, "Filter", x.Filter(has("a", -1)), table("ab", []int{-1, 1}))
	is(t, "Filter", x.Filter(has("c", -1)), x)
	is(t, "Filter yes", x.Filter(yes), x)
	is(t, "Filter no", x.Filter(no), table("ab"))
	is(t, "Filter of Unit", solution.Unit().Filter(yes), solution.Unit())
	is(t, "Filter of Unit", solution.Unit().Filter(no), solution.Table{})
}

// TestAsked: what is asked is asked of the table, row by row, once each.
func TestAsked(t *testing.T) {
	x := table("ab", []int{3, 1}, []int{-1, 1}, []int{3, 1})
	var asked [][]int
	ask := func(of solution.Table, row []int) {
		is(t, "what is asked", of, x)
		asked = append(asked, row)
	}
	x.Filter(func(of solution.Table, row []int) bool { ask(of, row); return len(asked) == 2 })
	is(t, "Filter asks", table("ab", asked...), x)
	asked = nil
	x.Extend("aa", func(of solution.Table, row []int) int { ask(of, row); return len(asked) })
	is(t, "Extend asks", table("ab", asked...), x)
}

func TestExtend(t *testing.T) {
	x := table("bd", []int{1, 2}, []int{-1, 0}, []int{1, 2})
	sum := func(of solution.Table, row []int) int { return of.Value(row, "b") + of.Value(row, "d") }
	is(t, "Extend", x.Extend("a", sum), table("abd", []int{3, 1, 2}, []int{-1, -1, 0}, []int{3, 1, 2}))
	is(t, "Extend", x.Extend("c", sum), table("bcd", []int{1, 3, 2}, []int{-1, -1, 0}, []int{1, 3, 2}))
	is(t, "Extend", x.Extend("e", sum), table("bde", []int{1, 2, 3}, []int{-1, 0, -1}, []int{1, 2, 3}))
	for _, n := range []int{-1, -2, math.MinInt} {
		is(t, "Extend by nothing", x.Extend("c", func(solution.Table, []int) int { return n }), table("bcd", []int{1, -1, 2}, []int{-1, -1, 0}, []int{1, -1, 2}))
	}
	is(t, "Extend by 0", table("b", []int{-1}).Extend("c", func(solution.Table, []int) int { return 0 }), table("bc", []int{-1, 0}))
	for _, v := range x.Vars {
		is(t, "Extend of what is there", x.Extend(v, sum), x)
	}
	is(t, "Extend of Unit", solution.Unit().Extend("a", func(solution.Table, []int) int { return math.MaxInt }), table("a", []int{math.MaxInt}))
	is(t, "Extend without rows", solution.Table{}.Extend("a", sum), table("a"))
	is(t, "Extend without rows", table("b").Extend("a", sum), table("ab"))
}

func TestProject(t *testing.T) {
	x := table("acd", []int{1, 2, 3}, []int{-1, 0, 5}, []int{1, 2, 4})
	is(t, "Project", x.Project("c", "a"), table("ac", []int{1, 2}, []int{-1, 0}, []int{1, 2}))
	is(t, "Project", x.Project("d"), table("d", []int{3}, []int{5}, []int{4}))
	is(t, "Project to all", x.Project("d", "c", "a"), x)
	is(t, "Project to what comes twice", x.Project("d", "d", "a", "d"), table("ad", []int{1, 3}, []int{-1, 5}, []int{1, 4}))
	is(t, "Project to what isn't there", x.Project("b", "", "d", "e"), solution.Table{Vars: []string{"", "b", "d", "e"}, Rows: [][]int{{-1, -1, 3, -1}, {-1, -1, 5, -1}, {-1, -1, 4, -1}}})
	is(t, "Project to none", x.Project(), table("", []int{}, []int{}, []int{}))
	is(t, "Project of Unit", solution.Unit().Project("a"), table("a", []int{-1}))
	is(t, "Project without rows", table("ab").Project("b", "c"), table("bc"))
}

func TestDistinct(t *testing.T) {
	x := table("ab", []int{2, 1}, []int{-1, 3}, []int{2, 1}, []int{1, 2}, []int{-1, 3}, []int{2, -1}, []int{2, 1}, []int{21, -1}, []int{-1, -1}, []int{-1, -1})
	is(t, "Distinct", x.Distinct(), table("ab", []int{2, 1}, []int{-1, 3}, []int{1, 2}, []int{2, -1}, []int{21, -1}, []int{-1, -1}))
	is(t, "Distinct of near rows", table("abc", []int{1, 11, 1}, []int{11, 1, 1}, []int{1, 1, 11}, []int{1, 11, 1}).Distinct(), table("abc", []int{1, 11, 1}, []int{11, 1, 1}, []int{1, 1, 11}))
	is(t, "Distinct of turned rows", table("ab", []int{1, 101}, []int{101, 1}, []int{1, 11}, []int{11, 1}).Distinct(), table("ab", []int{1, 101}, []int{101, 1}, []int{1, 11}, []int{11, 1}))
	is(t, "Distinct without vars", table("", []int{}, []int{}, []int{}).Distinct(), solution.Unit())
	is(t, "Distinct without rows", table("ab").Distinct(), table("ab"))
	is(t, "Distinct of far numbers", table("a", []int{math.MaxInt}, []int{math.MaxInt - 1}, []int{math.MaxInt}).Distinct(), table("a", []int{math.MaxInt}, []int{math.MaxInt - 1}))
}

func TestSort(t *testing.T) {
	x := table("ab", []int{2, 7}, []int{-1, 3}, []int{10, 5}, []int{2, -1}, []int{0, 0}, []int{2, 6}, []int{-1, -1}, []int{2, 7})
	is(t, "Sort", x.Sort(cmp.Compare[int]), table("ab", []int{-1, -1}, []int{-1, 3}, []int{0, 0}, []int{2, -1}, []int{2, 6}, []int{2, 7}, []int{2, 7}, []int{10, 5}))
	back := func(a, b int) int { return 100 * cmp.Compare(b, a) }
	is(t, "Sort backwards", x.Sort(back), table("ab", []int{-1, -1}, []int{-1, 3}, []int{10, 5}, []int{2, -1}, []int{2, 7}, []int{2, 7}, []int{2, 6}, []int{0, 0}))
	tens := func(a, b int) int { return cmp.Compare(a/10, b/10) }
	is(t, "Sort of what is alike", table("ab", []int{12, 30}, []int{5, 9}, []int{19, 1}, []int{0, 2}, []int{-1, 8}, []int{11, 39}, []int{0, -1}, []int{-1, 3}).Sort(tens),
		table("ab", []int{-1, 8}, []int{-1, 3}, []int{0, -1}, []int{5, 9}, []int{0, 2}, []int{19, 1}, []int{12, 30}, []int{11, 39}))
	is(t, "Sort of all alike", x.Sort(func(a, b int) int { return 0 }), table("ab", []int{-1, -1}, []int{-1, 3}, []int{2, -1}, []int{2, 7}, []int{10, 5}, []int{0, 0}, []int{2, 6}, []int{2, 7}))
	is(t, "Sort without vars", table("", []int{}, []int{}).Sort(back), table("", []int{}, []int{}))
	is(t, "Sort without rows", table("a").Sort(back), table("a"))
}

// TestSortOfNothing: what stands for nothing isn't handed to the order.
func TestSortOfNothing(t *testing.T) {
	x := table("ab", []int{2, -1}, []int{-1, 3}, []int{-1, -1}, []int{2, -1}, []int{0, 3}, []int{-1, 0})
	x.Sort(func(a, b int) int {
		if a < 0 || b < 0 {
			t.Errorf("P14.1: Sort asks for the order of %d and %d", a, b)
		}
		return cmp.Compare(a, b)
	})
}

// TestSortOfMany: rows that are alike stay as they were, however many there are.
func TestSortOfMany(t *testing.T) {
	var x solution.Table
	x.Vars = names("ab")
	for i := range 1000 {
		x.Rows = append(x.Rows, []int{i*7%10 - 1, i + 10})
	}
	byA := func(a, b int) int {
		if a > 9 || b > 9 {
			return 0
		}
		return cmp.Compare(a, b)
	}
	got := x.Sort(byA)
	if !got.Good() || !slices.IsSortedFunc(got.Rows, slices.Compare[[]int]) || !solution.Same(got, x) {
		t.Errorf("P14.1: Sort of many: %s", told(got))
	}
}

func TestSame(t *testing.T) {
	x := table("ab", []int{1, 2}, []int{-1, 2}, []int{1, 2})
	for _, c := range []struct {
		y    solution.Table
		want bool
	}{
		{x, true},
		{table("ab", []int{-1, 2}, []int{1, 2}, []int{1, 2}), true},
		{table("ab", []int{-1, 2}, []int{1, 2}), false},
		{table("ab", []int{-1, 2}, []int{1, 2}, []int{-1, 2}), false},
		{table("ab", []int{-1, 2}, []int{1, 2}, []int{1, 2}, []int{1, 2}), false},
		{table("ab", []int{-1, 2}, []int{1, 2}, []int{1, 3}), false},
		{table("ab", []int{-1, 2}, []int{1, 2}, []int{2, 1}), false},
		{table("ac", []int{1, 2}, []int{-1, 2}, []int{1, 2}), false},
		{table("abc", []int{1, 2, -1}, []int{-1, 2, -1}, []int{1, 2, -1}), false},
		{table("ab"), false},
		{solution.Table{}, false},
	} {
		if solution.Same(x, c.y) != c.want || solution.Same(c.y, x) != c.want {
			t.Errorf("P14.1: Same of %s and %s isn't %t", told(x), told(c.y), c.want)
		}
	}
	if !solution.Same(solution.Table{}, solution.Table{Vars: []string{}, Rows: [][]int{}}) || !solution.Same(table("a"), solution.Table{Vars: names("a"), Rows: [][]int{}}) {
		t.Error("P14.1: Same of what is empty")
	}
	if solution.Same(solution.Table{}, solution.Unit()) || solution.Same(table("a"), table("b")) || solution.Same(table("", []int{}, []int{}), solution.Unit()) {
		t.Error("P14.1: Same of what is nearly empty")
	}
}

func TestMinus(t *testing.T) {
	x := table("ab", []int{1, 2}, []int{-1, 2}, []int{1, 2}, []int{3, -1}, []int{1, 2}, []int{-1, 2})
	is(t, "Minus one", solution.Minus(x, table("ab", []int{1, 2})), table("ab", []int{-1, 2}, []int{1, 2}, []int{3, -1}, []int{1, 2}, []int{-1, 2}))
	is(t, "Minus some", solution.Minus(x, table("ab", []int{-1, 2}, []int{1, 2}, []int{2, 1}, []int{3, -1}, []int{1, 2})), table("ab", []int{1, 2}, []int{-1, 2}))
	is(t, "Minus more", solution.Minus(x, solution.Union(x, x)), table("ab"))
	is(t, "Minus itself", solution.Minus(x, x), table("ab"))
	is(t, "Minus none", solution.Minus(x, table("ab")), x)
	is(t, "Minus what isn't there", solution.Minus(x, table("ab", []int{1, -1}, []int{2, 1}, []int{-1, -1})), x)
	is(t, "Minus of others", solution.Minus(x, table("ac", []int{1, 2})), x)
	is(t, "Minus of fewer", solution.Minus(x, table("a", []int{1})), x)
	is(t, "Minus of more", solution.Minus(x, table("abc", []int{1, 2, -1})), x)
	is(t, "Minus of none", solution.Minus(x, solution.Unit()), x)
	is(t, "Minus without vars", solution.Minus(table("", []int{}, []int{}, []int{}), table("", []int{}, []int{})), solution.Unit())
	is(t, "Minus without rows", solution.Minus(table("ab"), x), table("ab"))
}
