package solution_test

import (
	"cmp"
	"maps"
	"math/rand"
	"slices"
	"strconv"
	"testing"

	"beck/solution"
)

// plain has the chapter's words in the plainest way: of each row what its vars stand for, but those that stand for nothing.
type plain struct {
	vars map[string]int
	rows []map[string]int
}

func plainOf(t solution.Table) plain {
	p := plain{vars: map[string]int{}}
	for _, v := range t.Vars {
		p.vars[v] = 1
	}
	for _, row := range t.Rows {
		stands := map[string]int{}
		for i, n := range row {
			if n >= 0 {
				stands[t.Vars[i]] = n
			}
		}
		p.rows = append(p.rows, stands)
	}
	return p
}

func (p plain) table() solution.Table {
	t := solution.Table{Vars: slices.Sorted(maps.Keys(p.vars))}
	for _, stands := range p.rows {
		row := []int{}
		for _, v := range t.Vars {
			n, ok := stands[v]
			if !ok {
				n = -1
			}
			row = append(row, n)
		}
		t.Rows = append(t.Rows, row)
	}
	return t
}

func together(a, b map[string]int) map[string]int {
	c := maps.Clone(a)
	maps.Copy(c, b)
	return c
}

func compatible(x, y map[string]int) bool {
	for v, n := range x {
		if m, ok := y[v]; ok && m != n {
			return false
		}
	}
	return true
}

// leftJoin is Join, too: of that no row comes by itself.
func leftJoin(a, b plain, alone bool, ok func(row map[string]int) bool) plain {
	p := plain{vars: together(a.vars, b.vars)}
	for _, x := range a.rows {
		some := false
		for _, y := range b.rows {
			if compatible(x, y) && ok(together(x, y)) {
				p.rows, some = append(p.rows, together(x, y)), true
			}
		}
		if !some && alone {
			p.rows = append(p.rows, x)
		}
	}
	return p
}

func minus(a, b plain) plain {
	if !maps.Equal(a.vars, b.vars) {
		return a
	}
	p := plain{a.vars, slices.Clone(a.rows)}
	for _, y := range b.rows {
		i := slices.IndexFunc(p.rows, func(x map[string]int) bool { return maps.Equal(x, y) })
		if i >= 0 {
			p.rows = slices.Delete(p.rows, i, i+1)
		}
	}
	return p
}

func (p plain) distinct() plain {
	q := plain{vars: p.vars}
	for _, x := range p.rows {
		if !slices.ContainsFunc(q.rows, func(y map[string]int) bool { return maps.Equal(x, y) }) {
			q.rows = append(q.rows, x)
		}
	}
	return q
}

func (p plain) project(vars []string) plain {
	q := plain{vars: map[string]int{}}
	for _, v := range vars {
		q.vars[v] = 1
	}
	for _, x := range p.rows {
		y := maps.Clone(x)
		maps.DeleteFunc(y, func(v string, _ int) bool { return q.vars[v] == 0 })
		q.rows = append(q.rows, y)
	}
	return q
}

// behind tells whether a row stands behind another one, by an order of numbers.
func (p plain) behind(x, y map[string]int, order func(a, b int) int) bool {
	for _, v := range slices.Sorted(maps.Keys(p.vars)) {
		m, inX := x[v]
		n, inY := y[v]
		switch {
		case inX && !inY:
			return true
		case !inX && inY:
			return false
		case inX && order(m, n) != 0:
			return order(m, n) > 0
		}
	}
	return false
}

// sorted lets each row go ahead past those that stand behind it.
func (p plain) sorted(order func(a, b int) int) plain {
	q := plain{p.vars, slices.Clone(p.rows)}
	for i := range q.rows {
		for k := i; k > 0 && q.behind(q.rows[k-1], q.rows[k], order); k-- {
			q.rows[k-1], q.rows[k] = q.rows[k], q.rows[k-1]
		}
	}
	return q
}

// anyTable makes one of some of a few vars, of few numbers.
func anyTable(random *rand.Rand) solution.Table {
	t := solution.Table{}
	for _, v := range names("abcde") {
		if random.Intn(2) == 0 {
			t.Vars = append(t.Vars, v)
		}
	}
	many, numbers := random.Intn(9), 1+random.Intn(4)
	for range many {
		row := []int{}
		for range t.Vars {
			row = append(row, random.Intn(numbers+1)-1)
		}
		t.Rows = append(t.Rows, row)
	}
	return t
}

func anyVars(random *rand.Rand) []string {
	var l []string
	for range random.Intn(5) {
		l = append(l, strconv.Itoa(random.Intn(3)), string(rune('a'+random.Intn(6))))
	}
	return l
}

// TestModel: of any tables all calls answer as the chapter says.
func TestModel(t *testing.T) {
	random := rand.New(rand.NewSource(14))
	for range 4000 {
		a, b := anyTable(random), anyTable(random)
		if random.Intn(3) == 0 {
			b.Vars = a.Vars
			b.Rows = slices.DeleteFunc(append(slices.Clone(a.Rows), b.Rows...), func(row []int) bool { return len(row) != len(a.Vars) || random.Intn(3) == 0 })
		}
		p, q := plainOf(a), plainOf(b)
		v, n := string(rune('a'+random.Intn(6))), random.Intn(4)-1
		ok := func(of solution.Table, row []int) bool { return of.Value(row, v) != n }
		plainOK := func(row map[string]int) bool { m, there := row[v]; return there && m != n || !there && n != -1 }
		is(t, "Join", solution.Join(a, b), leftJoin(p, q, false, func(map[string]int) bool { return true }).table())
		is(t, "LeftJoin", solution.LeftJoin(a, b, ok), leftJoin(p, q, true, plainOK).table())
		is(t, "Union", solution.Union(a, b), plain{together(p.vars, q.vars), append(slices.Clone(p.rows), q.rows...)}.table())
		is(t, "Filter", a.Filter(ok), plain{p.vars, slices.DeleteFunc(slices.Clone(p.rows), func(row map[string]int) bool { return !plainOK(row) })}.table())
		is(t, "Minus", solution.Minus(a, b), minus(p, q).table())
		is(t, "Distinct", a.Distinct(), p.distinct().table())
		vars := anyVars(random)
		is(t, "Project", a.Project(vars...), p.project(vars).table())
		for _, order := range []func(x, y int) int{cmp.Compare[int], func(x, y int) int { return y - x }, func(x, y int) int { return x/2 - y/2 }} {
			is(t, "Sort", a.Sort(order), p.sorted(order).table())
		}
		same := maps.Equal(p.vars, q.vars) && len(minus(p, q).rows) == 0 && len(minus(q, p).rows) == 0
		if solution.Same(a, b) != same || !solution.Same(a, a.Sort(cmp.Compare[int])) {
			t.Errorf("P14.1: Same of %s and %s isn't %t", told(a), told(b), same)
		}
		if t.Failed() {
			t.Fatalf("of %s and %s", told(a), told(b))
		}
	}
}

// TestOfAny: vars and rows in any order, with any numbers, are put in order.
func TestOfAny(t *testing.T) {
	random := rand.New(rand.NewSource(41))
	for range 3000 {
		vars := anyVars(random)
		p := plain{vars: map[string]int{}}
		var rows [][]int
		for range random.Intn(4) {
			rows = append(rows, random.Perm(1 + random.Intn(12))[1:])
		}
		for _, row := range rows {
			stands := map[string]int{}
			for i := range row {
				row[i] -= 3
				if i < len(vars) && slices.Index(vars, vars[i]) == i && row[i] >= 0 {
					stands[vars[i]] = row[i]
				}
			}
			p.rows = append(p.rows, stands)
		}
		for _, v := range vars {
			p.vars[v] = 1
		}
		is(t, "Of", solution.Of(vars, rows...), p.table())
	}
}
