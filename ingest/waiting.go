package ingest

import "container/heap"

// waiting is a heap of items: the first one by times, and then numbers, stands at its beginning. Its exported methods are those that container/heap calls.
type waiting []Item

// Len: how many.
func (w waiting) Len() int { return len(w) }

// Less: by times, and then numbers.
func (w waiting) Less(i, k int) bool {
	if w[i].Time != w[k].Time {
		return w[i].Time < w[k].Time
	}
	return w[i].Seq < w[k].Seq
}

// Swap: each stands where the other one stood.
func (w waiting) Swap(i, k int) { w[i], w[k] = w[k], w[i] }

// Push: an item at the end.
func (w *waiting) Push(item any) { *w = append(*w, item.(Item)) }

// Pop: the one at the end.
func (w *waiting) Pop() any {
	end := len(*w) - 1
	item := (*w)[end]
	*w = (*w)[:end]
	return item
}

// takeBelow takes away the items whose time is below one, and answers them in order.
func (w *waiting) takeBelow(time int) []Item {
	var l []Item
	for len(*w) > 0 && (*w)[0].Time < time {
		l = append(l, heap.Pop(w).(Item))
	}
	return l
}
