package algebra_test

import (
	"maps"
	"slices"
	"testing"

	"beck/algebra"
	"beck/bag"
	"beck/solution"
	"beck/syntax"
)

// groups have all kinds of items.
var groups = []string{
	"{ }",
	"{ ?x <u:k> ?y . }",
	"{ ?x <u:k>* ?y . ?y <u:o>|<u:n> ?z . }",
	"{ ?x ?p ?y . FILTER(?x != ?y) BIND(?x = ?y AS ?z) }",
	"{ ?x <u:k> ?y . OPTIONAL { ?y <u:o> ?n . BIND(?n + 1 AS ?m) } }",
	"{ { ?x <u:o> 1 . } UNION { ?x <u:o> 2 . } UNION { } }",
	"{ WINDOW <u:w> { ?x <u:m> ?y . ?x <u:k>+ ?z . } ?x <u:o> ?n . }",
}

// TestArgumentsStay: trees and contents are neither changed nor kept, spare room included (R6), and the store stays.
func TestArgumentsStay(t *testing.T) {
	b := people(t)
	room := append(slices.Clone(b.Windows["u:w"]), bag.Entry{Many: -7}, bag.Entry{Many: -7})
	before := slices.Clone(room)
	b.Windows["u:w"] = room[:len(room)-2]
	windows := maps.Clone(b.Windows)
	store := slices.Collect(b.Store.Scan([3]int{-1, -1, -1}))
	for _, group := range groups {
		g := parsed(t, group)
		items := append(slices.Clone(g.Items), syntax.Item{Kind: -7})
		g.Items = items[:len(items)-1]
		algebra.Eval(g, b.Data)
		if !syntax.Same(syntax.Query{Where: g}, syntax.Query{Where: parsed(t, group)}) || items[len(items)-1].Kind != -7 {
			t.Errorf("R6: the tree of %s has changed", group)
		}
		if !slices.Equal(room, before) || !maps.EqualFunc(b.Windows, windows, slices.Equal) {
			t.Errorf("P16.1: %s has changed contents", group)
		}
		if !slices.Equal(slices.Collect(b.Store.Scan([3]int{-1, -1, -1})), store) {
			t.Errorf("P16.1: %s has changed the store", group)
		}
	}
}

// spoil writes into all that a table has, spare room included.
func spoil(x solution.Table) {
	vars, rows := x.Vars[:cap(x.Vars)], x.Rows[:cap(x.Rows)]
	for i := range vars {
		vars[i] = "!"
	}
	for _, row := range rows {
		row = row[:cap(row)]
		for i := range row {
			row[i] = -9
		}
	}
	clear(rows)
}

// TestAnswersAreNew: what is answered is the caller's, and what is asked again is answered again (R6, R8).
func TestAnswersAreNew(t *testing.T) {
	b := people(t)
	for _, group := range groups {
		x, code := b.eval(group)
		want := told(b.Dict, x)
		y, _ := b.eval(group)
		spoil(y)
		if got := told(b.Dict, x); got != want || code != 0 {
			t.Errorf("R6: %s: answers share memory: %s, want %s", group, got, want)
		}
		z, _ := b.eval(group)
		if got := told(b.Dict, z); got != want || !slices.EqualFunc(z.Rows, x.Rows, slices.Equal) {
			t.Errorf("R8: %s: %s, want %s", group, got, want)
		}
	}
}

// TestRowsAreNew: rows of one answer share no memory, those neither that come more than once.
func TestRowsAreNew(t *testing.T) {
	b := people(t)
	for _, group := range append(groups, "{ WINDOW <u:w> { ?x <u:m> ?y . } }") {
		x, _ := b.eval(group)
		for i, row := range x.Rows {
			before := make([][]int, 0, len(x.Rows))
			for _, other := range x.Rows {
				before = append(before, slices.Clone(other))
			}
			full := row[:cap(row)]
			for j := range full {
				full[j] = 77
			}
			for j, other := range x.Rows {
				if j != i && !slices.Equal(other, before[j]) {
					t.Fatalf("R6: %s: rows %d and %d share memory", group, i, j)
				}
			}
		}
	}
}

// TestStandsByItself: a table stays when what it was made of goes.
func TestStandsByItself(t *testing.T) {
	b := people(t)
	x, _ := b.eval("{ WINDOW <u:w> { ?x ?p ?y . } ?a <u:k> ?b . }")
	want := told(b.Dict, x)
	clear(b.Windows["u:w"])
	clear(b.Windows)
	for _, k := range slices.Collect(b.Store.Scan([3]int{-1, -1, -1})) {
		b.Store.Remove(k)
	}
	if got := told(b.Dict, x); got != want {
		t.Errorf("R6: the table is %s now, want %s", got, want)
	}
}
