package check

import (
	"beck/api"
	"beck/nfa"
	"beck/syntax"
	"beck/term"
)

// literal is the kind of literals, by package term's numbers.
const literal = 2

// finder goes through a WHERE's groups, item by item, and keeps the first item that has a fault. It looks at a FILTER only when it has been through all of its group, as vars that stand behind it count too: by then it may have found faults of items behind it.
type finder struct {
	sources names
	items   int // how many it has come to
	first   int
	code    api.Errno
}

// checkWhere looks at the items of a query's groups; it answers the WHERE's vars, too.
func checkWhere(q syntax.Query) (names, api.Errno) {
	f := finder{sources: sourceNames(q.Sources)}
	vars := f.group(q.Where, false)
	return vars, f.code
}

// found takes note of what was found of an item.
func (f *finder) found(item int, code api.Errno) {
	if code != api.OK && (f.code == api.OK || item < f.first) {
		f.first, f.code = item, code
	}
}

// group looks at a group's items, which stand in a WINDOW or don't, and answers its vars.
func (f *finder) group(g syntax.Group, inWindow bool) names {
	vars := names{}
	var filters []func()
	for _, x := range g.Items {
		f.items++
		item := f.items
		switch x.Kind {
		case syntax.Triple:
			f.found(item, checkTriple(x))
		case syntax.Filter:
			filters = append(filters, func() { f.found(item, inScope(x.Expr, vars)) })
		case syntax.Bind:
			f.found(item, checkBind(x, vars))
		case syntax.Window:
			f.found(item, f.checkWindow(x, inWindow))
		}
		vars.item(x)
		for _, inner := range x.Groups {
			vars = together(vars, f.group(inner, inWindow || x.Kind == syntax.Window))
		}
	}
	for _, look := range filters {
		look()
	}
	return vars
}

func checkTriple(x syntax.Item) api.Errno {
	switch {
	case term.Kind(x.S.Term) == literal:
		return api.ErrTerm
	case x.P.Var != "":
		return api.OK
	}
	return nfa.Check(Number(x.Path, func(string) int { return 0 }))
}

// inScope looks whether an expression's vars are among some.
func inScope(e syntax.Expr, vars names) api.Errno {
	if vars.lacks(ExprVars(e)...) {
		return api.ErrScope
	}
	return api.OK
}

// checkBind looks at a BIND behind items that have some vars.
func checkBind(x syntax.Item, ahead names) api.Errno {
	code := inScope(x.Expr, ahead)
	if code == api.OK && ahead.has(x.Var) {
		return api.ErrThere
	}
	return code
}

func (f *finder) checkWindow(x syntax.Item, inWindow bool) api.Errno {
	switch {
	case !f.sources.has(x.IRI):
		return api.ErrNone
	case inWindow:
		return api.ErrOrder
	}
	return api.OK
}
