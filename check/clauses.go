package check

import (
	"slices"

	"beck/api"
	"beck/syntax"
)

func sourceNames(l []syntax.Source) names {
	n := names{}
	for _, s := range l {
		n[s.Name]++
	}
	return n
}

func checkSources(l []syntax.Source, streams []string) api.Errno {
	there := namesOf(streams...)
	switch {
	case len(sourceNames(l)) < len(l):
		return api.ErrThere
	case slices.ContainsFunc(l, func(s syntax.Source) bool { return !s.Shape.Good() }):
		return api.ErrRange
	case slices.ContainsFunc(l, func(s syntax.Source) bool { return !there.has(s.Stream) }):
		return api.ErrNone
	}
	return api.OK
}

// checkBy looks at the vars of BY, where the WHERE has some.
func checkBy(by []string, where names) api.Errno {
	ahead := names{}
	for _, v := range by {
		switch {
		case !where.has(v):
			return api.ErrScope
		case !ahead.takes(v):
			return api.ErrThere
		}
	}
	return api.OK
}

// checkSelect looks at the selections, where the WHERE has some vars.
func checkSelect(q syntax.Query, where names) api.Errno {
	plain := where
	if Grouped(q) {
		plain = namesOf(q.By...) // vars of the WHERE, as checkBy asks
	}
	ahead := names{}
	for _, s := range q.Select {
		var code api.Errno
		switch {
		case !ahead.takes(s.Var):
			return api.ErrThere
		case isFold(s):
			code = checkFold(s, where)
		case !plain.has(s.Var):
			code = api.ErrScope
		}
		if code != api.OK {
			return code
		}
	}
	return api.OK
}

func checkFold(s syntax.Select, where names) api.Errno {
	switch {
	case s.Of == "*" && s.Fold != "COUNT":
		return api.ErrType
	case s.Of != "*" && !where.has(s.Of):
		return api.ErrScope
	case where.has(s.Var):
		return api.ErrThere
	}
	return api.OK
}
