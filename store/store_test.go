package store_test

import (
	"cmp"
	"math"
	"math/rand"
	"slices"
	"testing"

	"beck/api"
	"beck/dict"
	"beck/store"
)

const maxRoom = 100000

// parts are the chapter's orders: which part of a key stands first, second, third.
var parts = [3][3]int{{0, 1, 2}, {1, 2, 0}, {2, 0, 1}}

// compare holds two keys against each other in an order.
func compare(order int, a, b dict.Key) int {
	x := parts[order]
	return cmp.Or(cmp.Compare(a[x[0]], b[x[0]]), cmp.Compare(a[x[1]], b[x[1]]), cmp.Compare(a[x[2]], b[x[2]]))
}

// patternOrder is the chapter's order of a pattern, by what it asks for.
func patternOrder(p store.Pattern) int {
	return map[[3]bool]int{
		{false, false, false}: 0, {true, false, false}: 0, {true, true, false}: 0, {true, true, true}: 0,
		{false, true, false}: 1, {false, true, true}: 1,
		{false, false, true}: 2, {true, false, true}: 2,
	}[[3]bool{p[0] >= 0, p[1] >= 0, p[2] >= 0}]
}

// fits tells whether each number that is asked for is the key's.
func fits(p store.Pattern, k dict.Key) bool {
	return (p[0] < 0 || p[0] == k[0]) && (p[1] < 0 || p[1] == k[1]) && (p[2] < 0 || p[2] == k[2])
}

// model has the chapter's words in the plainest way: a list of keys as they came.
type model struct {
	room int
	keys []dict.Key
}

func (m *model) add(k dict.Key) api.Errno {
	switch {
	case k[0] < 0 || k[1] < 0 || k[2] < 0:
		return api.ErrRange
	case slices.Contains(m.keys, k):
		return api.ErrThere
	case len(m.keys) == m.room:
		return api.ErrFull
	}
	m.keys = append(m.keys, k)
	return api.OK
}

func (m *model) remove(k dict.Key) api.Errno {
	i := slices.Index(m.keys, k)
	if i < 0 {
		return api.ErrNone
	}
	m.keys = slices.Delete(m.keys, i, i+1)
	return api.OK
}

func (m *model) scan(p store.Pattern) []dict.Key {
	var l []dict.Key
	for _, k := range m.keys {
		if fits(p, k) {
			l = append(l, k)
		}
	}
	slices.SortFunc(l, func(a, b dict.Key) int { return compare(patternOrder(p), a, b) })
	return l
}

// newStore answers a store with some keys.
func newStore(t *testing.T, room int, l ...dict.Key) *store.Store {
	t.Helper()
	s, e := store.New(room)
	if e != api.OK || s == nil || s.Len() != 0 {
		t.Fatalf("P6.1: New(%d): %d", room, e)
	}
	for _, k := range l {
		if e := s.Add(k); e != api.OK {
			t.Fatalf("P6.1: Add(%v): %d", k, e)
		}
	}
	return s
}

// patternsOf are patterns in which each number is one of some.
func patternsOf(numbers ...int) []store.Pattern {
	var l []store.Pattern
	for _, a := range numbers {
		for _, b := range numbers {
			for _, c := range numbers {
				l = append(l, store.Pattern{a, b, c})
			}
		}
	}
	return l
}

// holdsJust checks by each way of asking that a store has just the model's keys.
func holdsJust(t *testing.T, s *store.Store, m *model, patterns []store.Pattern) {
	t.Helper()
	if s.Len() != len(m.keys) {
		t.Fatalf("P6.1: Len: %d, want %d", s.Len(), len(m.keys))
	}
	for _, p := range patterns {
		want := m.scan(p)
		if got := slices.Collect(s.Scan(p)); !slices.Equal(got, want) {
			t.Fatalf("P6.2: Scan(%v): %v, want %v", p, got, want)
		}
		if got := s.Count(p); got != len(want) {
			t.Fatalf("P6.1: Count(%v): %d, want %d", p, got, len(want))
		}
		if got, want := s.Has(dict.Key(p)), slices.Contains(m.keys, dict.Key(p)); got != want {
			t.Fatalf("P6.1: Has(%v): %v, want %v", p, got, want)
		}
	}
}

func TestNew(t *testing.T) {
	for _, room := range []int{1, 2, maxRoom - 1, maxRoom} {
		holdsJust(t, newStore(t, room), &model{}, patternsOf(-1, 0, 1))
	}
	for _, room := range []int{0, -1, math.MinInt, maxRoom + 1, math.MaxInt} {
		if s, e := store.New(room); s != nil || e != api.ErrRange {
			t.Errorf("P6.1: New(%d): %v, %d", room, s, e)
		}
	}
}

func TestAdd(t *testing.T) {
	m := &model{room: 4}
	s := newStore(t, m.room)
	patterns := patternsOf(-1, 0, 1, 2, math.MaxInt)
	for _, x := range []struct {
		k    dict.Key
		want api.Errno
	}{
		{dict.Key{-1, 0, 0}, api.ErrRange}, {dict.Key{0, -1, 0}, api.ErrRange}, {dict.Key{0, 0, -1}, api.ErrRange},
		{dict.Key{math.MinInt, 0, 0}, api.ErrRange}, {dict.Key{0, math.MinInt, math.MaxInt}, api.ErrRange}, {dict.Key{-1, -1, -1}, api.ErrRange},
		{dict.Key{0, 0, 0}, api.OK}, {dict.Key{0, 0, 0}, api.ErrThere},
		{dict.Key{0, 1, 2}, api.OK}, {dict.Key{2, 1, 0}, api.OK}, {dict.Key{0, 1, 2}, api.ErrThere},
		{dict.Key{math.MaxInt, math.MaxInt, math.MaxInt}, api.OK},
		{dict.Key{1, 2, 0}, api.ErrFull}, {dict.Key{2, 0, 1}, api.ErrFull},
		{dict.Key{0, 1, 2}, api.ErrThere}, {dict.Key{math.MaxInt, math.MaxInt, math.MaxInt}, api.ErrThere}, // ahead of ErrFull
		{dict.Key{0, 0, -1}, api.ErrRange}, {dict.Key{math.MinInt, 1, 2}, api.ErrRange},
	} {
		if e := s.Add(x.k); e != x.want || e != m.add(x.k) {
			t.Errorf("P6.1: Add(%v): %d, want %d", x.k, e, x.want)
		}
		holdsJust(t, s, m, patterns)
	}
}

func TestRemove(t *testing.T) {
	m := &model{room: 3, keys: []dict.Key{{0, 1, 2}, {2, 1, 0}, {1, 1, 1}}}
	s := newStore(t, m.room, m.keys...)
	patterns := patternsOf(-1, 0, 1, 2)
	for _, x := range []struct {
		k    dict.Key
		want api.Errno
	}{
		{dict.Key{0, 1, 1}, api.ErrNone}, {dict.Key{1, 2, 0}, api.ErrNone}, {dict.Key{2, 0, 1}, api.ErrNone}, {dict.Key{9, 9, 9}, api.ErrNone}, {dict.Key{0, 0, 0}, api.ErrNone},
		{dict.Key{-1, 1, 2}, api.ErrNone}, {dict.Key{-1, -1, -1}, api.ErrNone}, {dict.Key{0, 1, math.MinInt}, api.ErrNone}, {dict.Key{math.MaxInt, 0, 0}, api.ErrNone}, // no pattern
		{dict.Key{1, 1, 1}, api.OK}, {dict.Key{1, 1, 1}, api.ErrNone},
		{dict.Key{2, 1, 0}, api.OK}, {dict.Key{0, 1, 2}, api.OK}, {dict.Key{0, 1, 2}, api.ErrNone}, {dict.Key{0, 0, 0}, api.ErrNone},
	} {
		if e := s.Remove(x.k); e != x.want || e != m.remove(x.k) {
			t.Errorf("P6.1: Remove(%v): %d, want %d", x.k, e, x.want)
		}
		holdsJust(t, s, m, patterns)
	}
	for _, k := range []dict.Key{{2, 1, 0}, {1, 1, 1}, {0, 0, 0}} { // what is gone leaves its room
		if e := s.Add(k); e != api.OK || m.add(k) != api.OK {
			t.Errorf("P6.1: Add(%v) behind Remove: %d", k, e)
		}
		holdsJust(t, s, m, patterns)
	}
	if e := s.Add(dict.Key{0, 1, 2}); e != api.ErrFull {
		t.Errorf("P6.1: Add without room: %d", e)
	}
}

// TestRoomOfOne: the least room.
func TestRoomOfOne(t *testing.T) {
	s := newStore(t, 1, dict.Key{1, 2, 3})
	if e := s.Add(dict.Key{1, 2, 3}); e != api.ErrThere {
		t.Errorf("P6.1: Add of what is there: %d", e)
	}
	if e := s.Add(dict.Key{1, 2, 4}); e != api.ErrFull {
		t.Errorf("P6.1: Add without room: %d", e)
	}
	holdsJust(t, s, &model{keys: []dict.Key{{1, 2, 3}}}, patternsOf(-1, 1, 2, 3, 4))
}

// TestGreatestRoom: 100,000 keys have room, one more hasn't.
func TestGreatestRoom(t *testing.T) {
	s := newStore(t, maxRoom)
	key := func(i int) dict.Key { return dict.Key{i * 7919 % maxRoom, i % 10, i % 1000} }
	for i := range maxRoom {
		if e := s.Add(key(i)); e != api.OK {
			t.Fatalf("P6.1: Add of key %d: %d", i, e)
		}
	}
	if e := s.Add(dict.Key{0, 0, 1}); e != api.ErrFull || s.Len() != maxRoom {
		t.Errorf("P6.1: Add of one more than 100,000: %d, of %d", e, s.Len())
	}
	for p, want := range map[store.Pattern]int{
		{-1, -1, -1}: maxRoom, {-1, 3, -1}: maxRoom / 10, {-1, -1, 503}: maxRoom / 1000, {-1, 3, 503}: maxRoom / 1000, {-1, 4, 503}: 0,
		{7919, -1, -1}: 1, {7919, 1, -1}: 1, {7919, -1, 1}: 1, {7919, 1, 1}: 1, {7919, 1, 2}: 0, {maxRoom, -1, -1}: 0, {-1, 10, -1}: 0, {-1, -1, 1000}: 0,
	} {
		if got := s.Count(p); got != want {
			t.Errorf("P6.2: Count(%v): %d, want %d", p, got, want)
		}
		l := slices.Collect(s.Scan(p))
		if !slices.IsSortedFunc(l, func(a, b dict.Key) int { return compare(patternOrder(p), a, b) }) {
			t.Errorf("P6.2: Scan(%v) isn't in the pattern's order", p)
		}
		if len(l) != want || slices.ContainsFunc(l, func(k dict.Key) bool { return !fits(p, k) || !s.Has(k) }) {
			t.Errorf("P6.2: Scan(%v): not those that fit", p)
		}
	}
	for i := range maxRoom {
		if e := s.Remove(key(i)); e != api.OK {
			t.Fatalf("P6.1: Remove of key %d: %d", i, e)
		}
	}
	holdsJust(t, s, &model{}, patternsOf(-1, 0, 1))
}

// TestScan: keys that have numbers in common, by every pattern of these and others.
func TestScan(t *testing.T) {
	m := &model{room: 200}
	s := newStore(t, m.room)
	for _, p := range patternsOf(0, 1, 2, math.MaxInt) {
		k := dict.Key{p[1], p[2], p[0]} // they come in another order than they are told
		if (p[0]+p[1]+p[2])%5 == 3 {
			continue
		}
		if e := s.Add(k); e != api.OK || m.add(k) != api.OK {
			t.Fatalf("P6.1: Add(%v): %d", k, e)
		}
	}
	holdsJust(t, s, m, patternsOf(math.MinInt, -2, -1, 0, 1, 2, 3, math.MaxInt-1, math.MaxInt))
}

// TestScanAsItIs: what is told is what is there when it is gone through, as often as that is.
func TestScanAsItIs(t *testing.T) {
	s := newStore(t, 10)
	for _, p := range []store.Pattern{{-1, -1, -1}, {-1, 1, -1}, {-1, -1, 5}, {0, 1, 5}} {
		l := s.Scan(p)
		for _, want := range [][]dict.Key{nil, {{0, 1, 5}}} {
			for range 2 {
				if got := slices.Collect(l); !slices.Equal(got, want) {
					t.Errorf("P6.1: Scan(%v), gone through: %v, want %v", p, got, want)
				}
			}
			s.Add(dict.Key{0, 1, 5})
		}
		s.Remove(dict.Key{0, 1, 5})
		if got := slices.Collect(l); len(got) != 0 {
			t.Errorf("P6.1: Scan(%v) behind Remove: %v", p, got)
		}
	}
}

// TestScanEnds: nothing more is told as soon as the consumer says no, wherever that is.
func TestScanEnds(t *testing.T) {
	s := newStore(t, 1000)
	for i := range 1000 {
		s.Add(dict.Key{i, 1, 1})
	}
	for _, p := range []store.Pattern{{-1, -1, -1}, {-1, 1, -1}, {-1, -1, 1}, {-1, 1, 1}} {
		for _, end := range []int{1, 2, 255, 256, 257, 500, 999, 1000} {
			var l []dict.Key
			s.Scan(p)(func(k dict.Key) bool {
				l = append(l, k)
				return len(l) < end
			})
			if len(l) != end || l[end-1] != (dict.Key{end - 1, 1, 1}) {
				t.Errorf("P6.1: Scan(%v) that ends at %d: %d", p, end, len(l))
			}
		}
	}
}

// TestScanWithin: one scan is gone through within another one.
func TestScanWithin(t *testing.T) {
	s := newStore(t, 10, dict.Key{0, 1, 2}, dict.Key{2, 1, 3}, dict.Key{2, 1, 4}, dict.Key{3, 1, 0}, dict.Key{4, 2, 0})
	all := s.Scan(store.Pattern{-1, -1, -1})
	var got [][2]dict.Key
	for a := range s.Scan(store.Pattern{-1, 1, -1}) {
		for b := range s.Scan(store.Pattern{a[2], -1, -1}) {
			got = append(got, [2]dict.Key{a, b})
		}
	}
	want := [][2]dict.Key{
		{{3, 1, 0}, {0, 1, 2}}, {{0, 1, 2}, {2, 1, 3}}, {{0, 1, 2}, {2, 1, 4}}, {{2, 1, 3}, {3, 1, 0}}, {{2, 1, 4}, {4, 2, 0}},
	}
	if !slices.Equal(got, want) {
		t.Errorf("P6.2: Scan within Scan: %v, want %v", got, want)
	}
	many := 0
	for range all {
		for range all {
			many++
		}
	}
	if many != 25 {
		t.Errorf("P6.2: one Scan within itself: %d, want 25", many)
	}
}

func TestPattern(t *testing.T) {
	for _, p := range patternsOf(math.MinInt, -7, -1, 0, 1, 9, math.MaxInt) {
		if got, want := p.Order(), patternOrder(p); got != want {
			t.Errorf("P6.1: Order of %v: %d, want %d", p, got, want)
		}
		for _, k := range patternsOf(math.MinInt, -7, -1, 0, 1, 9, math.MaxInt) {
			if got, want := p.Fits(dict.Key(k)), fits(p, dict.Key(k)); got != want {
				t.Errorf("P6.1: Fits of %v, %v: %v, want %v", p, k, got, want)
			}
		}
	}
}

func TestLess(t *testing.T) {
	keys := patternsOf(math.MinInt, -1, 0, 1, math.MaxInt)
	for _, order := range []int{0, 1, 2, 3, -1, 4, 5, -2, math.MinInt, math.MaxInt} {
		known := order
		if order < 0 || order > 2 {
			known = 0
		}
		for _, a := range keys {
			for _, b := range keys {
				want := compare(known, dict.Key(a), dict.Key(b)) < 0
				if got := store.Less(order, dict.Key(a), dict.Key(b)); got != want {
					t.Fatalf("P6.1: Less(%d, %v, %v): %v, want %v", order, a, b, got, want)
				}
			}
		}
	}
}

func TestCopy(t *testing.T) {
	patterns := patternsOf(-1, 0, 1, 2)
	for _, many := range []int{0, 1, 3} {
		one := &model{room: 4, keys: []dict.Key{{0, 1, 2}, {1, 2, 0}, {2, 0, 1}}[:many]}
		s := newStore(t, one.room, one.keys...)
		c := s.Copy()
		other := &model{room: one.room, keys: slices.Clone(one.keys)}
		holdsJust(t, c, other, patterns)
		for _, x := range []struct {
			s    *store.Store
			m    *model
			keys []dict.Key
		}{{s, one, []dict.Key{{0, 0, 0}, {1, 1, 1}, {1, 1, 0}, {0, 1, 1}}}, {c, other, []dict.Key{{2, 2, 2}, {0, 2, 1}, {1, 0, 0}, {0, 0, 2}}}} {
			for _, k := range x.keys { // the last ones without room
				if e, want := x.s.Add(k), x.m.add(k); e != want {
					t.Errorf("P6.1: Add(%v) by Copy: %d, want %d", k, e, want)
				}
			}
			holdsJust(t, s, one, patterns)
			holdsJust(t, c, other, patterns)
			for _, k := range []dict.Key{{1, 2, 0}, x.keys[0], {1, 2, 0}} {
				if e, want := x.s.Remove(k), x.m.remove(k); e != want {
					t.Errorf("P6.1: Remove(%v) by Copy: %d, want %d", k, e, want)
				}
			}
			holdsJust(t, s, one, patterns)
			holdsJust(t, c, other, patterns)
		}
	}
}

// TestCopyOfMany: no key of a greater store is moved by what a copy adds and removes.
func TestCopyOfMany(t *testing.T) {
	s := newStore(t, 4000)
	for i := range 2000 {
		s.Add(dict.Key{i * 2, i % 7, i % 11})
	}
	all := store.Pattern{-1, -1, -1}
	before := slices.Collect(s.Scan(all))
	c := s.Copy()
	for i := range 2000 {
		c.Add(dict.Key{i*2 + 1, i % 7, i % 11})
		if i%3 > 0 {
			c.Remove(dict.Key{i * 2, i % 7, i % 11})
		}
	}
	if !slices.Equal(slices.Collect(s.Scan(all)), before) || s.Len() != 2000 {
		t.Error("P6.1: a store isn't as it was, by its copy")
	}
	behind := slices.Collect(c.Scan(all))
	for _, k := range before {
		s.Remove(k)
	}
	if !slices.Equal(slices.Collect(c.Scan(all)), behind) || c.Len() != len(behind) || s.Len() != 0 {
		t.Error("P6.1: a copy isn't as it was, by its store")
	}
}

// TestOfMany: whatever is added and removed, in whatever order, the answers are as the chapter says.
func TestOfMany(t *testing.T) {
	random := rand.New(rand.NewSource(6))
	patterns := patternsOf(-1, 0, 1, 2, 3)
	for range 60 {
		m := &model{room: 1 + random.Intn(40)}
		s := newStore(t, m.room)
		for range 40 {
			k := dict.Key{random.Intn(5) - 1, random.Intn(4), random.Intn(4)}
			if random.Intn(3) == 0 {
				if e, want := s.Remove(k), m.remove(k); e != want {
					t.Fatalf("P6.1: Remove(%v): %d, want %d", k, e, want)
				}
			} else if e, want := s.Add(k), m.add(k); e != want {
				t.Fatalf("P6.1: Add(%v): %d, want %d", k, e, want)
			}
			holdsJust(t, s, m, patterns)
		}
	}
}
