package syntax

import (
	"slices"

	"beck/term"
)

// Same: the same tree?
func Same(a, b Query) bool {
	return a.Kind == b.Kind && a.IRI == b.IRI && a.Distinct == b.Distinct &&
		slices.Equal(a.Select, b.Select) && slices.Equal(a.Sources, b.Sources) &&
		sameGroup(a.Where, b.Where) && slices.Equal(a.By, b.By)
}

func sameGroup(a, b Group) bool { return slices.EqualFunc(a.Items, b.Items, sameItem) }

func sameItem(a, b Item) bool {
	return a.Kind == b.Kind && a.Var == b.Var && a.IRI == b.IRI &&
		sameNode(a.S, b.S) && sameNode(a.P, b.P) && sameNode(a.O, b.O) &&
		samePath(a.Path, b.Path) && sameExpr(a.Expr, b.Expr) &&
		slices.EqualFunc(a.Groups, b.Groups, sameGroup)
}

func sameNode(a, b Node) bool {
	if a.Term == nil || b.Term == nil { // what is no term is the same as nothing, for package term
		return a.Var == b.Var && a.Term == nil && b.Term == nil
	}
	return a.Var == b.Var && term.Same(a.Term, b.Term)
}

func samePath(a, b Path) bool {
	return a.Kind == b.Kind && a.IRI == b.IRI && slices.EqualFunc(a.Parts, b.Parts, samePath)
}

func sameExpr(a, b Expr) bool {
	return a.Op == b.Op && sameNode(a.Node, b.Node) && slices.EqualFunc(a.Parts, b.Parts, sameExpr)
}
