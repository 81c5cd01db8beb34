package value_test

import (
	"slices"
	"testing"

	"beck/value"
)

// The tests of this package are P2.1's: each call answers by the chapter's words.

func TestNumbersOfTruths(t *testing.T) {
	if value.False != 0 || value.True != 1 || value.Wrong != 2 {
		t.Errorf("%d, %d, %d", value.False, value.True, value.Wrong)
	}
}

func TestOf(t *testing.T) {
	if value.Of(true) != value.True || value.Of(false) != value.False {
		t.Errorf("Of: %d, %d", value.Of(true), value.Of(false))
	}
}

func TestNot(t *testing.T) {
	for n := range 256 {
		want := value.Wrong
		switch n {
		case 0:
			want = value.True
		case 1:
			want = value.False
		}
		if got := value.Not(value.Truth(n)); got != want {
			t.Errorf("Not(%d): %d, want %d", n, got, want)
		}
	}
}

func TestAndOr(t *testing.T) {
	for _, c := range []struct {
		l       []value.Truth
		and, or value.Truth
	}{
		{nil, value.True, value.False},
		{[]value.Truth{}, value.True, value.False},
		{[]value.Truth{value.False}, value.False, value.False},
		{[]value.Truth{value.True}, value.True, value.True},
		{[]value.Truth{value.Wrong}, value.Wrong, value.Wrong},
		{[]value.Truth{3}, value.Wrong, value.Wrong},
		{[]value.Truth{255}, value.Wrong, value.Wrong},
		{[]value.Truth{value.True, value.False}, value.False, value.True},
		{[]value.Truth{value.True, value.True}, value.True, value.True},
		{[]value.Truth{value.False, value.False}, value.False, value.False},
		{[]value.Truth{value.Wrong, value.True}, value.Wrong, value.True}, // the chapter's example
		{[]value.Truth{value.Wrong, value.False}, value.False, value.Wrong},
		{[]value.Truth{200, value.False, value.True}, value.False, value.True},
	} {
		if and, or := value.And(c.l...), value.Or(c.l...); and != c.and || or != c.or {
			t.Errorf("And, Or of %v: %d, %d, want %d, %d", c.l, and, or, c.and, c.or)
		}
	}
}

// TestAndOrOfAll: of up to six truths, whichever they are and in whatever order.
func TestAndOrOfAll(t *testing.T) {
	var try func(l []value.Truth)
	try = func(l []value.Truth) {
		no, yes := slices.Contains(l, value.False), slices.Contains(l, value.True)
		wrong := slices.ContainsFunc(l, func(a value.Truth) bool { return a > value.True })
		and, or := value.True, value.False
		if wrong {
			and, or = value.Wrong, value.Wrong
		}
		if no {
			and = value.False
		}
		if yes {
			or = value.True
		}
		handed := slices.Clone(l)
		if got := value.And(handed...); got != and {
			t.Errorf("And of %v: %d, want %d", l, got, and)
		}
		if got := value.Or(handed...); got != or {
			t.Errorf("Or of %v: %d, want %d", l, got, or)
		}
		if !slices.Equal(handed, l) {
			t.Errorf("%v was changed to %v", l, handed)
		}
		if len(l) < 6 {
			for _, a := range []value.Truth{value.False, value.True, value.Wrong, 3, 255} {
				try(append(slices.Clone(l), a))
			}
		}
	}
	try(nil)
}
