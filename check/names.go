package check

import (
	"maps"
	"slices"

	"beck/syntax"
)

// names are a set of names: how often each was put in.
type names map[string]int

// namesOf puts names together.
func namesOf(l ...string) names {
	n := names{}
	for _, name := range l {
		n[name]++
	}
	return n
}

func (n names) has(name string) bool { return n[name] > 0 }

// takes puts a name in, and tells whether it is new.
func (n names) takes(name string) bool {
	n[name]++
	return n[name] == 1
}

// lacks tells whether one of some isn't among them.
func (n names) lacks(l ...string) bool {
	return slices.ContainsFunc(l, func(name string) bool { return !n.has(name) })
}

func (n names) rising() []string { return slices.Sorted(maps.Keys(n)) }

// nodes puts in those of nodes that are vars.
func (n names) nodes(l ...syntax.Node) {
	for _, node := range l {
		if node.Var != "" {
			n[node.Var]++
		}
	}
}

// item puts in the vars that an item has outside its groups.
func (n names) item(x syntax.Item) {
	switch x.Kind {
	case syntax.Triple:
		n.nodes(x.S, x.P, x.O)
	case syntax.Bind:
		n[x.Var]++
	}
}

func (n names) group(g syntax.Group) {
	for _, x := range g.Items {
		n.item(x)
		for _, inner := range x.Groups {
			n.group(inner)
		}
	}
}

func (n names) expr(e syntax.Expr) {
	n.nodes(e.Node)
	for _, part := range e.Parts {
		n.expr(part)
	}
}

// together answers the names of two sets, which aren't used any more: the smaller one is put into the greater one, so that groups that stand in one another don't hand all their names on one by one.
func together(a, b names) names {
	if len(a) < len(b) {
		a, b = b, a
	}
	for name := range b {
		a[name]++
	}
	return a
}
