package store

import "beck/dict"

// Order: a pattern's.
func (p Pattern) Order() int {
	subject, predicate, object := p[0] >= 0, p[1] >= 0, p[2] >= 0
	switch {
	case object && !predicate:
		return 2
	case predicate && !subject:
		return 1
	}
	return 0
}

// Fits: is what is asked for a key's?
func (p Pattern) Fits(k dict.Key) bool {
	for part, n := range p {
		if n >= 0 && n != k[part] {
			return false
		}
	}
	return true
}

// least is the key that, in the pattern's order, none of those that fit is ahead of.
func (p Pattern) least() dict.Key {
	return dict.Key{max(p[0], 0), max(p[1], 0), max(p[2], 0)}
}

// Less: is one ahead of another one?
func Less(order int, a, b dict.Key) bool {
	if order < 0 || order >= len(a) {
		order = 0
	}
	for i := range len(a) {
		part := (order + i) % len(a) // an order begins with the part of its number, and goes round from there
		if a[part] != b[part] {
			return a[part] < b[part]
		}
	}
	return false
}
