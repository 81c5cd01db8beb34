package store

import (
	"iter"
	"slices"
	"sort"

	"beck/dict"
)

// maxBlock is how many keys a block has at most. It is even.
const maxBlock = 256

// list has keys, rising in an order. They stand in blocks, so that one that comes or goes moves few others only. No block is empty, and two neighbours have more than half a block's keys together, so that the blocks are few.
type list struct {
	order  int
	blocks [][]dict.Key
}

// find answers the block and the place in it of the first key that isn't ahead of k; if all are, the block behind the last one.
func (l *list) find(k dict.Key) (block, place int) {
	block = sort.Search(len(l.blocks), func(i int) bool {
		keys := l.blocks[i]
		return !Less(l.order, keys[len(keys)-1], k)
	})
	if block == len(l.blocks) {
		return block, 0
	}
	keys := l.blocks[block]
	place = sort.Search(len(keys), func(i int) bool { return !Less(l.order, keys[i], k) })
	return block, place
}

// has tells whether a key is there.
func (l *list) has(k dict.Key) bool {
	block, place := l.find(k)
	return block < len(l.blocks) && l.blocks[block][place] == k
}

// from gives those that aren't ahead of k.
func (l *list) from(k dict.Key) iter.Seq[dict.Key] {
	return func(yield func(k dict.Key) bool) {
		block, place := l.find(k)
		for ; block < len(l.blocks); block++ {
			for _, x := range l.blocks[block][place:] {
				if !yield(x) {
					return
				}
			}
			place = 0
		}
	}
}

// add puts a key that isn't there at its place.
func (l *list) add(k dict.Key) {
	block, place := l.find(k)
	if block == len(l.blocks) {
		if block == 0 {
			l.blocks = [][]dict.Key{{k}}
			return
		}
		block--
		place = len(l.blocks[block])
	}
	l.blocks[block] = slices.Insert(l.blocks[block], place, k)
	if len(l.blocks[block]) > maxBlock {
		l.split(block)
	}
}

// split makes two blocks of one.
func (l *list) split(block int) {
	keys := l.blocks[block]
	half := len(keys) / 2
	l.blocks[block] = keys[:half]
	l.blocks = slices.Insert(l.blocks, block+1, slices.Clone(keys[half:]))
}

// remove takes away a key that is there.
func (l *list) remove(k dict.Key) {
	block, place := l.find(k)
	l.blocks[block] = slices.Delete(l.blocks[block], place, place+1)
	if len(l.blocks[block]) == 0 {
		l.blocks = slices.Delete(l.blocks, block, block+1)
		return
	}
	l.join(block)
	l.join(block - 1)
}

// join makes one block of one and the next, if there are both, and they are small.
func (l *list) join(block int) {
	next := block + 1
	if block < 0 || next >= len(l.blocks) || len(l.blocks[block])+len(l.blocks[next]) > maxBlock/2 {
		return
	}
	l.blocks[block] = slices.Concat(l.blocks[block], l.blocks[next])
	l.blocks = slices.Delete(l.blocks, next, next+1)
}

// copied answers a list of the same keys that shares nothing with this one.
func (l *list) copied() list {
	c := list{order: l.order}
	for _, keys := range l.blocks {
		c.blocks = append(c.blocks, slices.Clone(keys))
	}
	return c
}
