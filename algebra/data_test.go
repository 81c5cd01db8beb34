package algebra_test

import (
	"slices"
	"strings"
	"testing"

	"beck/algebra"
	"beck/api"
	"beck/bag"
	"beck/check"
	"beck/dict"
	"beck/nt"
	"beck/solution"
	"beck/store"
	"beck/syntax"
)

// builder makes data out of lines of triples.
type builder struct {
	*testing.T
	algebra.Data
}

func newBuilder(t *testing.T, terms int) builder {
	t.Helper()
	d, code := dict.New(terms)
	if code != api.OK {
		t.Fatalf("dict.New(%d): %d", terms, code)
	}
	s, code := store.New(100000)
	if code != api.OK {
		t.Fatalf("store.New: %d", code)
	}
	return builder{t, algebra.Data{Dict: d, Store: s, Windows: map[string][]bag.Entry{}}}
}

// keys answers those of lines, whose terms are put into the dictionary.
func (b builder) keys(lines string) []dict.Key {
	b.Helper()
	l, place, code := nt.Parse(lines)
	if code != api.OK {
		b.Fatalf("%s: %d at %d", lines, code, place)
	}
	var keys []dict.Key
	for _, x := range l {
		k, code := b.Dict.Key(x)
		if code != api.OK {
			b.Fatalf("no key of %s: %d", x.Text(), code)
		}
		keys = append(keys, k)
	}
	return keys
}

func (b builder) static(keys ...dict.Key) {
	b.Helper()
	for _, k := range keys {
		if code := b.Store.Add(k); code != api.OK {
			b.Fatalf("Add %v: %d", k, code)
		}
	}
}

// window makes the content of a window, which has its keys as often as they are told.
func (b builder) window(name string, keys ...dict.Key) {
	var l []bag.Entry
	for _, k := range keys {
		i := slices.IndexFunc(l, func(x bag.Entry) bool { return x.Key == k })
		if i < 0 {
			l = append(l, bag.Entry{Key: k, Many: 1})
		} else {
			l[i].Many++
		}
	}
	slices.SortFunc(l, func(x, y bag.Entry) int { return slices.Compare(x.Key[:], y.Key[:]) })
	b.Windows[name] = l
}

// parsed answers the tree of a group's text.
func parsed(t *testing.T, group string) syntax.Group {
	t.Helper()
	q, place, code := syntax.Parse("REGISTER RSTREAM <u:o> AS SELECT ?x WHERE " + group)
	if code != api.OK {
		t.Fatalf("%s: %d at %d", group, code, place)
	}
	return q.Where
}

// short writes terms without what is the same of all.
var short = strings.NewReplacer("<u:", "", ">", "", "\"^^<http://www.w3.org/2001/XMLSchema#integer", "", "\"^^<http://www.w3.org/2001/XMLSchema#boolean", "", "\"", "")

// told writes a table's rows in an order of their own, what stands for nothing left out.
func told(d *dict.Dict, x solution.Table) string {
	var l []string
	for _, row := range x.Rows {
		var parts []string
		for i, v := range x.Vars {
			if row[i] < 0 {
				continue
			}
			y, code := d.Term(row[i])
			if code != api.OK {
				parts = append(parts, v+"=?")
				continue
			}
			parts = append(parts, v+"="+short.Replace(nt.Text(y)))
		}
		l = append(l, "("+strings.Join(parts, " ")+")")
	}
	slices.Sort(l)
	return strings.Join(l, "")
}

// eval answers a group's table, and checks its form, and that it has just the group's vars.
func (b builder) eval(group string) (solution.Table, api.Errno) {
	b.Helper()
	g := parsed(b.T, group)
	x, code := algebra.Eval(g, b.Data)
	switch {
	case code != api.OK && (len(x.Vars) > 0 || len(x.Rows) > 0):
		b.Errorf("R3: %s: %d, and a table of %v", group, code, x.Vars)
	case code == api.OK && !slices.Equal(x.Vars, check.Vars(g)):
		b.Errorf("P16.2: %s: the vars are %v, want %v", group, x.Vars, check.Vars(g))
	case !x.Good():
		b.Errorf("P16.1: %s: the table isn't good: %v, %v", group, x.Vars, x.Rows)
	}
	return x, code
}

// is checks the rows of a group's table.
func (b builder) is(group, want string) {
	b.Helper()
	x, code := b.eval(group)
	if got := told(b.Dict, x); got != want || code != api.OK {
		b.Errorf("P16.1: %s: %s, %d, want %s", group, got, code, want)
	}
}

// many checks how many rows a group's table has, and its error.
func (b builder) many(group string, want int, wrong api.Errno) {
	b.Helper()
	x, code := b.eval(group)
	if code != wrong || len(x.Rows) != want {
		b.Errorf("P16.1: %s: %d rows, %d, want %d, %d", group, len(x.Rows), code, want, wrong)
	}
}

// people answers data of a store and windows: knows k, is called n, is old o.
func people(t *testing.T) builder {
	t.Helper()
	b := newBuilder(t, 100)
	b.static(b.keys(`<u:a> <u:k> <u:b> .
		<u:b> <u:k> <u:c> .
		<u:c> <u:k> <u:c> .
		<u:a> <u:o> "1"^^<http://www.w3.org/2001/XMLSchema#integer> .
		<u:c> <u:o> "2"^^<http://www.w3.org/2001/XMLSchema#integer> .
		<u:a> <u:n> "A" .
		<u:b> <u:n> "B"@en .
		_:x <u:n> "01"^^<http://www.w3.org/2001/XMLSchema#integer> .
		<u:k> <u:k> <u:k> .`)...)
	b.window("u:w", b.keys(`<u:a> <u:m> <u:a> .
		<u:a> <u:m> <u:a> .
		<u:c> <u:m> <u:z> .
		<u:a> <u:k> <u:z> .
		<u:a> <u:k> <u:z> .
		<u:z> <u:k> <u:a> .`)...)
	b.window("u:v", b.keys("<u:c> <u:k> <u:a> .")...)
	b.window("u:e")
	b.Windows["u:nil"] = nil
	return b
}
