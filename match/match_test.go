package match_test

import (
	"math/rand"
	"slices"
	"testing"

	"beck/match"
)

func TestColumns(t *testing.T) {
	for _, c := range []struct {
		vars, in []string
		want     []int
	}{
		{nil, nil, nil},
		{nil, []string{"a"}, nil},
		{[]string{"a", "b"}, nil, []int{-1, -1}},
		{[]string{"c", "a", "x", "c"}, []string{"a", "b", "c"}, []int{2, 0, -1, 2}},
		{[]string{"a", "b"}, []string{"b", "a", "a", "b"}, []int{1, 0}},
	} {
		if got := match.Columns(c.vars, c.in); !slices.Equal(got, c.want) {
			t.Errorf("Columns of %v in %v: %v, want %v", c.vars, c.in, got, c.want)
		}
	}
}

func TestNumber(t *testing.T) {
	row := []int{5, 0, -1, -7}
	for column, want := range map[int]int{-2: -1, -1: -1, 0: 5, 1: 0, 2: -1, 3: -1, 4: -1, 1 << 62: -1} {
		if got := match.Number(row, column); got != want {
			t.Errorf("Number in column %d: %d, want %d", column, got, want)
		}
	}
}

// plain tells the places as the chapter's words do, row by row.
func plain(left, right []string, x []int, rows [][]int) []int {
	var l []int
	for place, y := range rows {
		fits := true
		for i, v := range left {
			if j := slices.Index(right, v); j >= 0 && x[i] >= 0 && y[j] >= 0 && x[i] != y[j] {
				fits = false
			}
		}
		if fits {
			l = append(l, place)
		}
	}
	return l
}

func TestFinder(t *testing.T) {
	r := rand.New(rand.NewSource(14))
	some := func() ([]string, func() []int) {
		vars := []string{"a", "b", "c", "d"}
		r.Shuffle(4, func(i, j int) { vars[i], vars[j] = vars[j], vars[i] })
		vars = vars[:r.Intn(5)]
		many, least := 1+r.Intn(4), r.Intn(2)-1
		return vars, func() []int {
			var row []int
			for range vars {
				row = append(row, least+r.Intn(many))
			}
			return row
		}
	}
	for range 3000 {
		left, x := some()
		right, y := some()
		var rows [][]int
		for range r.Intn(9) {
			rows = append(rows, y())
		}
		partners := match.Finder(left, right, rows)
		for range 3 {
			row := x()
			want := plain(left, right, row, rows)
			if got := slices.Collect(partners(row)); !slices.Equal(got, want) {
				t.Fatalf("of %v of %v in %v of %v: %v, want %v", row, left, rows, right, got, want)
			}
		}
	}
}

// TestFinderEnds: it gives no more when its consumer says no, and may be gone through again.
func TestFinderEnds(t *testing.T) {
	all := match.Finder([]string{"a"}, []string{"a"}, [][]int{{1}, {2}, {-1}, {1}})([]int{1})
	for end := 1; end <= 3; end++ {
		var l []int
		for place := range all {
			l = append(l, place)
			if len(l) == end {
				break
			}
		}
		if !slices.Equal(l, []int{0, 2, 3}[:end]) {
			t.Errorf("up to %d: %v", end, l)
		}
	}
}

// TestManyAlike: where all rows on the right are alike, those on the left that aren't needn't look at them.
func TestManyAlike(t *testing.T) {
	var rows [][]int
	for range 100000 {
		rows = append(rows, []int{7})
	}
	partners := match.Finder([]string{"a"}, []string{"a"}, rows)
	for n := range 100000 {
		for place := range partners([]int{n}) {
			if n != 7 {
				t.Fatalf("of %d: row %d", n, place)
			}
		}
	}
}
