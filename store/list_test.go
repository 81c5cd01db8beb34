package store

import (
	"math/rand"
	"slices"
	"testing"

	"beck/dict"
)

// wellBuilt checks that a list's blocks are as they are to be, and its keys rise, and are just some.
func wellBuilt(t *testing.T, l *list, keys map[dict.Key]struct{}) {
	t.Helper()
	many := 0
	for i, block := range l.blocks {
		many += len(block)
		if len(block) == 0 || len(block) > maxBlock {
			t.Fatalf("P6.1: a block of %d keys", len(block))
		}
		if i > 0 && len(block)+len(l.blocks[i-1]) <= maxBlock/2 {
			t.Fatalf("P6.1: neighbours of %d and %d keys", len(l.blocks[i-1]), len(block))
		}
	}
	if many != len(keys) {
		t.Fatalf("P6.1: %d keys, want %d", many, len(keys))
	}
	told := slices.Collect(l.from(dict.Key{}))
	for i, k := range told {
		if _, ok := keys[k]; !ok || !l.has(k) || i > 0 && !Less(l.order, told[i-1], k) {
			t.Fatalf("P6.1: %v stands at %d", k, i)
		}
	}
	if len(told) != many {
		t.Fatalf("P6.1: %d keys told, want %d", len(told), many)
	}
}

// wavesOf adds and removes keys in an order that is handed in, so that lists grow and shrink by some blocks.
func wavesOf(t *testing.T, order int, key func(i int) dict.Key) {
	t.Helper()
	l := &list{order: order}
	keys := map[dict.Key]struct{}{}
	const many = 8 * maxBlock
	for i := range many {
		l.add(key(i))
		keys[key(i)] = struct{}{}
		if i%31 == 0 || i > many-40 {
			wellBuilt(t, l, keys)
		}
	}
	for i := range many { // ones that stand apart first, so that all blocks get small
		k := key(i * 37 % many)
		l.remove(k)
		delete(keys, k)
		if i%31 == 0 || i > many-40 {
			wellBuilt(t, l, keys)
		}
		if l.has(k) {
			t.Fatalf("P6.1: %v is there still", k)
		}
	}
	if len(l.blocks) != 0 {
		t.Errorf("P6.1: %d blocks without keys", len(l.blocks))
	}
}

func TestBlocks(t *testing.T) {
	for order := range 3 {
		wavesOf(t, order, func(i int) dict.Key { return dict.Key{i, i, i} })
		wavesOf(t, order, func(i int) dict.Key { return dict.Key{9999 - i, 9999 - i, 9999 - i} })
		wavesOf(t, order, func(i int) dict.Key { return dict.Key{i * 917 % 2048, i % 7, i % 3} })
	}
}

// TestFrom: a list is gone through from any key on, be it there or not.
func TestFrom(t *testing.T) {
	l := &list{}
	const many = 3 * maxBlock
	for i := range many {
		l.add(dict.Key{2 * i, 5, 5})
	}
	for i := range 2*many + 3 {
		want := max(many-(i+1)/2, 0)
		if got := len(slices.Collect(l.from(dict.Key{i, 5, 5}))); got != want {
			t.Errorf("P6.1: from %d: %d keys, want %d", i, got, want)
		}
	}
}

// TestCopied: a copy's blocks are its own, spare room included.
func TestCopied(t *testing.T) {
	random := rand.New(rand.NewSource(6))
	l := &list{order: 1}
	keys := map[dict.Key]struct{}{}
	for range 4 * maxBlock {
		k := dict.Key{random.Intn(99), random.Intn(99), random.Intn(99)}
		if !l.has(k) {
			l.add(k)
		}
		keys[k] = struct{}{}
	}
	c := l.copied()
	both := []*list{l, &c}
	for i := range 400 {
		both[i%2].add(dict.Key{100 + i, i, i}) // by turns, so that spare room that is shared would be written twice
	}
	for turn, x := range both {
		for i := turn; i < 400; i += 2 {
			if !x.has(dict.Key{100 + i, i, i}) || both[1-turn].has(dict.Key{100 + i, i, i}) {
				t.Fatalf("P6.1: key %d isn't its list's alone", i)
			}
			x.remove(dict.Key{100 + i, i, i})
		}
	}
	for _, x := range both {
		wellBuilt(t, x, keys)
	}
}
