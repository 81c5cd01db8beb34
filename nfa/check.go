package nfa

import (
	"slices"

	"beck/api"
)

// maxPaths is how many paths are in one at most, it too.
const maxPaths = 200

// Check: may it be?
func Check(p Path) api.Errno {
	switch {
	case deeper(p, api.MaxDeep):
		return api.ErrDeep
	case many(p, maxPaths) > maxPaths:
		return api.ErrMany
	case !formed(p):
		return api.ErrForm
	}
	return api.OK
}

// deeper tells whether a path is deeper than so many. It goes down level by level, not path by path: one list may be the parts of several paths, so that a path has many more parts than there is memory for.
func deeper(p Path, levels int) bool {
	level := map[*Path][]Path{nil: {p}}
	for range levels {
		level = below(level)
	}
	return len(level) > 0
}

// below answers the lists of parts of the paths of some lists: of those that begin at one place the longest one, which has the others' parts, too.
func below(level map[*Path][]Path) map[*Path][]Path {
	next := map[*Path][]Path{}
	for _, l := range level {
		for _, p := range l {
			if len(p.Parts) > 0 && len(p.Parts) > len(next[&p.Parts[0]]) {
				next[&p.Parts[0]] = p.Parts
			}
		}
	}
	return next
}

// many answers how many paths are in one, it too, but counts no further than one more than most.
func many(p Path, most int) int {
	n := 1
	for _, part := range p.Parts {
		if n > most {
			break
		}
		n += many(part, most-n)
	}
	return n
}

// formed tells whether a path, and all its parts, have the form of their kinds.
func formed(p Path) bool {
	return fits(p) && !slices.ContainsFunc(p.Parts, func(part Path) bool { return !formed(part) })
}

// fits tells whether a path's number, and how many parts it has, are as its kind asks.
func fits(p Path) bool {
	switch p.Kind {
	case Step, Back:
		return p.N >= 0 && len(p.Parts) == 0
	case Seq, Alt:
		return len(p.Parts) >= 1
	case Star, Plus, Opt:
		return len(p.Parts) == 1
	}
	return false
}
