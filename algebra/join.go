package algebra

import (
	"beck/api"
	"beck/match"
	"beck/solution"
)

// joined answers two tables joined, or joined from the left on no condition, if that has no more rows than may be.
func joined(a, b solution.Table, fromLeft bool) (solution.Table, api.Errno) {
	switch {
	case tooMany(a, b, fromLeft):
		return solution.Table{}, api.ErrMany
	case fromLeft:
		return solution.LeftJoin(a, b, func(solution.Table, []int) bool { return true }), api.OK
	}
	return solution.Join(a, b), api.OK
}

// tooMany tells whether two tables joined have more rows than may be. It is asked ahead of the joining, as there could be so many that they can't be made.
func tooMany(a, b solution.Table, fromLeft bool) bool {
	if len(a.Rows)*len(b.Rows) <= MaxRows {
		return false
	}
	partners := match.Finder(a.Vars, b.Vars, b.Rows)
	many := 0
	for _, x := range a.Rows {
		ahead := many
		for range partners(x) {
			many++
			if many > MaxRows {
				return true
			}
		}
		if fromLeft && many == ahead {
			many++
		}
	}
	return many > MaxRows
}
