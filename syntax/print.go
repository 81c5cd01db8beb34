package syntax

import "beck/window"

// Print: a text of a tree.
func Print(q Query) string {
	w := &printer{}
	w.query(q)
	return w.text()
}

// PrintExpr: a text of an expression.
func PrintExpr(e Expr) string {
	w := &printer{}
	w.expr(e, orRank)
	return w.text()
}

// PrintPath: a text of a path.
func PrintPath(p Path) string {
	w := &printer{}
	w.path(p, altRank)
	return w.text()
}

func (w *printer) query(q Query) {
	w.add("REGISTER", q.Kind, iriText(q.IRI), "AS", "SELECT")
	if q.Distinct {
		w.add("DISTINCT")
	}
	for _, s := range q.Select {
		w.selection(s)
	}
	for _, s := range q.Sources {
		w.source(s)
	}
	w.add("WHERE")
	w.group(q.Where)
	if len(q.By) > 0 {
		w.add("GROUP", "BY")
		for _, v := range q.By {
			w.add(varText(v))
		}
	}
}

func (w *printer) selection(s Select) {
	switch {
	case s.Fold == "":
		w.add(varText(s.Var))
	case s.Of == "*":
		w.add("(", s.Fold, "(", "*", ")", "AS", varText(s.Var), ")")
	default:
		w.add("(", s.Fold, "(", varText(s.Of), ")", "AS", varText(s.Var), ")")
	}
}

func (w *printer) source(s Source) {
	w.add("FROM", "WINDOW", iriText(s.Name), "ON", iriText(s.Stream))
	w.add("[", "RANGE", intText(s.Shape.Width), "STEP", intText(s.Shape.Slide))
	if s.Shape.Begin != 0 {
		w.add("BEGIN", intText(s.Shape.Begin))
	}
	w.add("]")
	switch s.Policy {
	case window.NonEmpty:
		w.add("NONEMPTY")
	case window.Change:
		w.add("CHANGE")
	}
}

func (w *printer) group(g Group) {
	w.add("{")
	for _, x := range g.Items {
		w.item(x)
	}
	w.add("}")
}

func (w *printer) item(x Item) {
	switch x.Kind {
	case Triple:
		w.triple(x)
	case Filter:
		w.add("FILTER", "(")
		w.expr(x.Expr, orRank)
		w.add(")")
	case Bind:
		w.add("BIND", "(")
		w.expr(x.Expr, orRank)
		w.add("AS", varText(x.Var), ")")
	case Optional:
		w.add("OPTIONAL")
	case Window:
		w.add("WINDOW", iriText(x.IRI))
	}
	for i, g := range x.Groups {
		if i > 0 {
			w.add("UNION")
		}
		w.group(g)
	}
}

func (w *printer) triple(x Item) {
	w.add(nodeText(x.S))
	if x.P.Var != "" {
		w.add(varText(x.P.Var))
	} else {
		w.path(x.Path, altRank)
	}
	w.add(nodeText(x.O), ".")
}
