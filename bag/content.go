package bag

import (
	"slices"

	"beck/dict"
)

// Entry: a key, and how often.
type Entry struct {
	Key  dict.Key
	Many int
}

// Same: the same contents?
func Same(a, b []Entry) bool { return slices.Equal(a, b) }

// Keys: those of a content.
func Keys(l []Entry) []dict.Key {
	keys := make([]dict.Key, len(l))
	for i, x := range l {
		keys[i] = x.Key
	}
	return keys
}

// entries answers the content that has just these keys, so often.
func (c counts) entries() []Entry {
	l := make([]Entry, 0, len(c))
	for k, n := range c {
		l = append(l, Entry{Key: k, Many: n})
	}
	slices.SortFunc(l, func(a, b Entry) int { return slices.Compare(a.Key[:], b.Key[:]) })
	return l
}
