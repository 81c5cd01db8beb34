package algebra

import (
	"iter"

	"beck/bag"
	"beck/dict"
	"beck/store"
)

// source gives the keys that fit a pattern, and how often each is there.
type source func(p store.Pattern) iter.Seq2[dict.Key, int]

func inStore(s *store.Store) source {
	return func(p store.Pattern) iter.Seq2[dict.Key, int] {
		return func(yield func(k dict.Key, many int) bool) {
			for k := range s.Scan(p) {
				if !yield(k, 1) {
					return
				}
			}
		}
	}
}

func inContent(l []bag.Entry) source {
	return func(p store.Pattern) iter.Seq2[dict.Key, int] {
		return func(yield func(k dict.Key, many int) bool) {
			for _, x := range l {
				if p.Fits(x.Key) && !yield(x.Key, x.Many) {
					return
				}
			}
		}
	}
}
