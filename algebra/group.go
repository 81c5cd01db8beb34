package algebra

import (
	"beck/api"
	"beck/expr"
	"beck/solution"
	"beck/store"
	"beck/syntax"
	"beck/value"
)

// evaluation makes the tables of groups, by data, and by where their triples come from: the store, or the content of the WINDOW in which they stand.
type evaluation struct {
	Data
	triples source
}

// begun answers an evaluation that is in no WINDOW. A dictionary and a store that aren't there have nothing, and no room.
func begun(d Data) evaluation {
	d.Dict = thereOf(d.Dict)
	if d.Store == nil {
		d.Store = &store.Store{}
	}
	return evaluation{Data: d, triples: inStore(d.Store)}
}

// group answers a group's table.
func (e evaluation) group(g syntax.Group) (solution.Table, api.Errno) {
	t := solution.Unit()
	for _, x := range g.Items {
		var code api.Errno
		t, code = e.item(t, x)
		if code != api.OK {
			return solution.Table{}, code
		}
	}
	for _, x := range g.Items {
		if x.Kind == syntax.Filter {
			t = e.filtered(t, x.Expr)
		}
	}
	return t, api.OK
}

// item answers what an item makes of the table of what stands ahead of it.
func (e evaluation) item(t solution.Table, x syntax.Item) (solution.Table, api.Errno) {
	switch x.Kind {
	case syntax.Filter:
		return t, api.OK
	case syntax.Bind:
		return e.bound(t, x)
	}
	other, code := e.other(x)
	if code != api.OK {
		return solution.Table{}, code
	}
	return joined(t, other, x.Kind == syntax.Optional)
}

// other answers the table with which an item is joined.
func (e evaluation) other(x syntax.Item) (solution.Table, api.Errno) {
	switch x.Kind {
	case syntax.Triple:
		return e.triple(x)
	case syntax.Window:
		return e.window(x)
	}
	return e.union(x.Groups)
}

// window answers the table of a WINDOW's group.
func (e evaluation) window(x syntax.Item) (solution.Table, api.Errno) {
	content, there := e.Windows[x.IRI]
	if !there {
		return solution.Table{}, api.ErrNone
	}
	e.triples = inContent(content)
	return e.union(x.Groups)
}

// union answers the rows of groups' tables, one behind the other; of one group its table.
func (e evaluation) union(groups []syntax.Group) (solution.Table, api.Errno) {
	var all solution.Table
	for _, g := range groups {
		t, code := e.group(g)
		if code != api.OK {
			return solution.Table{}, code
		}
		if len(all.Rows)+len(t.Rows) > MaxRows {
			return solution.Table{}, api.ErrMany
		}
		all = solution.Union(all, t)
	}
	return all, api.OK
}

// bound answers a table with a BIND's var.
func (e evaluation) bound(t solution.Table, x syntax.Item) (solution.Table, api.Errno) {
	full := false
	out := t.Extend(x.Var, func(t solution.Table, row []int) int {
		n, code := e.worth(x.Expr, t, row)
		full = full || code == api.ErrFull
		if code != api.OK {
			return -1
		}
		return n
	})
	if full {
		return solution.Table{}, api.ErrFull
	}
	return out, api.OK
}

// worth answers the number of an expression's value by a row; ErrFull is no error of an expression, but tells that the dictionary has no room for it.
func (e evaluation) worth(x syntax.Expr, t solution.Table, row []int) (int, api.Errno) {
	v, code := expr.Eval(x, env(e.Dict, t, row))
	if code != api.OK {
		return 0, code
	}
	return e.Dict.Put(v)
}

// filtered answers the rows of which an expression is true.
func (e evaluation) filtered(t solution.Table, x syntax.Expr) solution.Table {
	return t.Filter(func(t solution.Table, row []int) bool {
		return expr.Truth(x, env(e.Dict, t, row)) == value.True
	})
}
