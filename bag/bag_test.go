package bag_test

import (
	"cmp"
	"maps"
	"math"
	"math/rand"
	"slices"
	"testing"

	"beck/api"
	"beck/bag"
	"beck/dict"
	"beck/window"
)

const (
	maxRoom  = 100000
	farthest = 1 << 61
)

func span(open, end int) window.Span { return window.Span{Open: open, Close: end} }

// element is a time, and a key.
type element struct {
	time int
	key  dict.Key
}

// model has the chapter's words in the plainest way: a list of all elements.
type model struct {
	room int
	l    []element
}

func (m *model) add(x element) api.Errno {
	if x.key[0] < 0 || x.key[1] < 0 || x.key[2] < 0 {
		return api.ErrRange
	}
	if len(m.l) == m.room {
		return api.ErrFull
	}
	m.l = append(m.l, x)
	return api.OK
}

func (m *model) remove(x element) api.Errno {
	for i, y := range m.l {
		if x == y {
			m.l = slices.Delete(m.l, i, i+1)
			return api.OK
		}
	}
	return api.ErrNone
}

func (m *model) expire(before int) int {
	was := len(m.l)
	m.l = slices.DeleteFunc(m.l, func(x element) bool { return x.time < before })
	return was - len(m.l)
}

// in tells by chapter 8's words whether a time is in a while: times beyond 2^61 are as that.
func in(w window.Span, time int) bool {
	if time > farthest {
		time = farthest
	}
	if time < -farthest {
		time = -farthest
	}
	return w.Open <= time && time < w.Close
}

// content answers a while's keys, and the latest time of each.
func (m *model) content(w window.Span) ([]bag.Entry, map[dict.Key]int) {
	var l []bag.Entry
	last := map[dict.Key]int{}
	for _, x := range m.l {
		if !in(w, x.time) {
			continue
		}
		latest, ok := last[x.key]
		if !ok {
			l = append(l, bag.Entry{Key: x.key})
		}
		if !ok || latest < x.time {
			last[x.key] = x.time
		}
		for i := range l {
			if l[i].Key == x.key {
				l[i].Many++
			}
		}
	}
	slices.SortFunc(l, func(x, y bag.Entry) int {
		return cmp.Or(cmp.Compare(x.Key[0], y.Key[0]), cmp.Compare(x.Key[1], y.Key[1]), cmp.Compare(x.Key[2], y.Key[2]))
	})
	return l, last
}

// times answers pairs: each time, and how many have it.
func (m *model) times() [][2]int {
	var l [][2]int
	for _, x := range m.l {
		i := slices.IndexFunc(l, func(p [2]int) bool { return p[0] >= x.time })
		switch {
		case i < 0:
			l = append(l, [2]int{x.time, 1})
		case l[i][0] == x.time:
			l[i][1]++
		default:
			l = slices.Insert(l, i, [2]int{x.time, 1})
		}
	}
	return l
}

func newBag(t *testing.T, room int) *bag.Bag {
	t.Helper()
	b, e := bag.New(room)
	if e != api.OK || b == nil {
		t.Fatalf("P9.1: New(%d): %d", room, e)
	}
	return b
}

// pair is a bag, and the model that it is held against.
type pair struct {
	t *testing.T
	b *bag.Bag
	m *model
}

func newPair(t *testing.T, room int, l ...element) *pair {
	t.Helper()
	p := &pair{t: t, b: newBag(t, room), m: &model{room: room}}
	p.same()
	p.addAll(api.OK, l...)
	return p
}

func (p *pair) add(x element) api.Errno {
	p.t.Helper()
	e := p.b.Add(x.time, x.key)
	if want := p.m.add(x); e != want {
		p.t.Fatalf("P9.1: Add of %v: %d, want %d", x, e, want)
	}
	return e
}

func (p *pair) remove(x element) api.Errno {
	p.t.Helper()
	e := p.b.Remove(x.time, x.key)
	if want := p.m.remove(x); e != want {
		p.t.Fatalf("P9.1: Remove of %v: %d, want %d", x, e, want)
	}
	return e
}

func (p *pair) expire(before int) int {
	p.t.Helper()
	n := p.b.Expire(before)
	if want := p.m.expire(before); n != want {
		p.t.Fatalf("P9.1: Expire(%d): %d, want %d", before, n, want)
	}
	return n
}

// addAll adds elements, each of which is to be answered by this code.
func (p *pair) addAll(code api.Errno, l ...element) {
	p.t.Helper()
	for _, x := range l {
		if e := p.add(x); e != code {
			p.t.Fatalf("P9.1: Add of %v: %d, want %d", x, e, code)
		}
	}
	p.same()
}

// removeAll takes elements away, each of which is to be answered by this code.
func (p *pair) removeAll(code api.Errno, l ...element) {
	p.t.Helper()
	for _, x := range l {
		if e := p.remove(x); e != code {
			p.t.Fatalf("P9.1: Remove of %v: %d, want %d", x, e, code)
		}
	}
	p.same()
}

// same checks that both tell the same of all that is there.
func (p *pair) same() {
	p.t.Helper()
	if p.b.Len() != len(p.m.l) {
		p.t.Fatalf("P9.1: Len: %d, want %d", p.b.Len(), len(p.m.l))
	}
	if l, want := timesOf(p.b), p.m.times(); !slices.Equal(l, want) {
		p.t.Fatalf("P9.1: Times: %v, want %v", l, want)
	}
	p.sameIn(span(math.MinInt, math.MaxInt))
}

// sameIn checks that both tell the same of a while.
func (p *pair) sameIn(w window.Span) {
	p.t.Helper()
	l, last := p.m.content(w)
	if got := p.b.Content(w); !slices.Equal(got, l) {
		p.t.Fatalf("P9.1: Content of %v: %v, want %v", w, got, l)
	}
	if got := p.b.Last(w); !maps.Equal(got, last) {
		p.t.Fatalf("P9.1: Last of %v: %v, want %v", w, got, last)
	}
}

// sameInAll checks that both tell the same of all whiles that open and close at some times.
func (p *pair) sameInAll(times ...int) {
	p.t.Helper()
	for _, open := range times {
		for _, end := range times {
			p.sameIn(span(open, end))
		}
	}
}

// timesOf answers all that Times gives, as pairs.
func timesOf(b *bag.Bag) [][2]int {
	var l [][2]int
	for time, many := range b.Times() {
		l = append(l, [2]int{time, many})
	}
	return l
}

// upTo answers the numbers from one to another.
func upTo(from, to int) []int {
	var l []int
	for n := from; n <= to; n++ {
		l = append(l, n)
	}
	return l
}

var (
	a = dict.Key{0, 9, 9}
	b = dict.Key{1, 0, 0}
	c = dict.Key{1, 0, 2}
)

func TestExample(t *testing.T) {
	x := newBag(t, 2)
	x.Add(7, a)
	x.Add(7, a)
	if l := x.Content(span(7, 8)); x.Len() != 2 || !slices.Equal(l, []bag.Entry{{Key: a, Many: 2}}) {
		t.Errorf("P9.1: what is added twice: %d, %v", x.Len(), l)
	}
}

func TestNew(t *testing.T) {
	for _, room := range []int{1, 2, maxRoom - 1, maxRoom} {
		p := newPair(t, room)
		p.sameInAll(math.MinInt, -1, 0, 1, math.MaxInt)
		if p.expire(math.MaxInt) != 0 || p.remove(element{0, dict.Key{}}) != api.ErrNone {
			t.Errorf("P9.1: a new bag of room %d isn't without elements", room)
		}
	}
	for _, room := range []int{math.MinInt, -1, 0, maxRoom + 1, math.MaxInt} {
		if x, e := bag.New(room); x != nil || e != api.ErrRange {
			t.Errorf("P9.1: New(%d): %v, %d", room, x, e)
		}
	}
}

// TestRange: a key whose numbers aren't all from 0 on isn't added, with room and without, nor is it there.
func TestRange(t *testing.T) {
	good := []dict.Key{{}, {math.MaxInt, 0, 0}, {0, math.MaxInt, 0}, {0, 0, math.MaxInt}, {api.MaxTerms, api.MaxTerms, api.MaxTerms}, {math.MaxInt, math.MaxInt, math.MaxInt}}
	p := newPair(t, len(good)+1)
	for _, k := range good {
		p.addAll(api.OK, element{3, k})
	}
	wrong := []dict.Key{{-1, -1, -1}, {math.MinInt, math.MinInt, math.MinInt}}
	for part := range 3 {
		for _, n := range []int{-1, -2, math.MinInt} {
			k := dict.Key{5, 5, 5}
			k[part] = n
			wrong = append(wrong, k)
		}
	}
	for range 2 {
		for _, k := range wrong {
			p.addAll(api.ErrRange, element{3, k}, element{4, k})
			p.removeAll(api.ErrNone, element{3, k}, element{4, k})
		}
		if p.b.Len() == len(good) {
			p.addAll(api.OK, element{3, dict.Key{}})
		}
	}
	p.addAll(api.ErrFull, element{3, dict.Key{}})
}

// TestRoom: each element has room, however often it is there; what is gone leaves its own.
func TestRoom(t *testing.T) {
	for _, room := range []int{1, 2, 5, 30} {
		p := newPair(t, room)
		for i := range room {
			p.addAll(api.OK, element{i / 3, a})
		}
		p.addAll(api.ErrFull, element{0, a}, element{-1, a}, element{99, b})
		p.removeAll(api.OK, element{0, a})
		p.addAll(api.OK, element{99, b})
		p.addAll(api.ErrFull, element{99, b}, element{0, a})
		if p.expire(99) != room-1 {
			t.Errorf("P9.1: Expire of room %d", room)
		}
		for range room - 1 {
			p.addAll(api.OK, element{-5, c})
		}
		p.addAll(api.ErrFull, element{-5, c})
	}
}

// TestGreatestRoom: of the greatest room each place is there, be its elements the same, or each apart, in whatever order they come.
func TestGreatestRoom(t *testing.T) {
	for _, of := range []func(i int) element{
		func(i int) element { return element{4, a} },
		func(i int) element { return element{4, dict.Key{i, i, i}} },
		func(i int) element { return element{i, a} },
		func(i int) element { return element{-i, dict.Key{0, 0, i}} },
		func(i int) element { return element{i * 7919 % maxRoom, dict.Key{i % 10, 0, 0}} },
	} {
		x := newBag(t, maxRoom)
		for i := range maxRoom {
			if e := x.Add(of(i).time, of(i).key); e != api.OK {
				t.Fatalf("P9.1: Add of element %d: %d", i, e)
			}
		}
		if e := x.Add(of(0).time, of(0).key); e != api.ErrFull || x.Len() != maxRoom {
			t.Fatalf("P9.1: Add of one more than there is room for: %d, %d", e, x.Len())
		}
		many := 0
		for _, entry := range x.Content(span(-maxRoom, maxRoom)) {
			many += entry.Many
		}
		if many != maxRoom {
			t.Errorf("P9.1: Content has %d", many)
		}
		for i := range maxRoom / 2 {
			if e := x.Remove(of(i).time, of(i).key); e != api.OK {
				t.Fatalf("P9.1: Remove of element %d: %d", i, e)
			}
		}
		if n := x.Expire(maxRoom); n != maxRoom/2 || x.Len() != 0 {
			t.Errorf("P9.1: Expire: %d, %d", n, x.Len())
		}
	}
}

func TestRemove(t *testing.T) {
	p := newPair(t, 9, element{5, a}, element{5, b}, element{5, a}, element{6, a}, element{-5, a})
	p.removeAll(api.ErrNone, element{6, b}, element{4, a}, element{5, c}, element{5, dict.Key{9, 9, 0}}, element{math.MaxInt, a}, element{math.MinInt, a})
	p.removeAll(api.OK, element{5, a}, element{5, a})
	p.removeAll(api.ErrNone, element{5, a})
	p.removeAll(api.OK, element{5, b}, element{6, a})
	p.removeAll(api.ErrNone, element{5, b}, element{6, a}, element{5, a})
	p.addAll(api.OK, element{5, b}, element{5, b})
	p.removeAll(api.OK, element{5, b}, element{-5, a}, element{5, b})
	p.removeAll(api.ErrNone, element{5, b}, element{-5, a})
}

// TestExpire: what is at the time itself stays, and all that is gone is counted as often as it was there.
func TestExpire(t *testing.T) {
	l := []element{{math.MinInt, a}, {-3, a}, {-3, a}, {-3, b}, {0, c}, {2, a}, {math.MaxInt, a}, {math.MaxInt, a}}
	for before, want := range map[int]int{
		math.MinInt: 0, math.MinInt + 1: 1, -farthest: 1, -4: 1, -3: 1, -2: 4, 0: 4, 1: 5, 2: 5, 3: 6, farthest: 6, farthest + 1: 6, math.MaxInt: 6,
	} {
		p := newPair(t, len(l), l...)
		if n := p.expire(before); n != want {
			t.Errorf("P9.1: Expire(%d): %d, want %d", before, n, want)
		}
		p.same()
		if n := p.expire(before); n != 0 {
			t.Errorf("P9.1: Expire(%d) again: %d", before, n)
		}
		p.addAll(api.OK, l[:want]...) // what is gone may come again, ahead of that time, too
		p.addAll(api.ErrFull, l[0])
		p.removeAll(api.OK, l...)
	}
}

// TestContent: what is in a while is there, in order, as often as it came; what isn't, isn't.
func TestContent(t *testing.T) {
	x := newBag(t, 20)
	for _, e := range []element{{4, c}, {5, b}, {3, a}, {5, b}, {4, b}, {9, a}, {-2, b}, {3, a}} {
		x.Add(e.time, e.key)
	}
	for w, want := range map[window.Span][]bag.Entry{
		span(3, 6):    {{a, 2}, {b, 3}, {c, 1}},
		span(4, 5):    {{b, 1}, {c, 1}},
		span(3, 4):    {{a, 2}},
		span(-9, 99):  {{a, 3}, {b, 4}, {c, 1}},
		span(5, 9):    {{b, 2}},
		span(5, 10):   {{a, 1}, {b, 2}},
		span(6, 9):    nil,
		span(4, 4):    nil,
		span(9, -2):   nil,
		span(10, 99):  nil,
		span(-99, -2): nil,
	} {
		if l := x.Content(w); !slices.Equal(l, want) {
			t.Errorf("P9.1: Content of %v: %v, want %v", w, l, want)
		}
	}
}

// TestOrderOfContent: by subject, predicate, object, each as a number.
func TestOrderOfContent(t *testing.T) {
	rising := []dict.Key{{0, 0, 0}, {0, 0, 10}, {0, 2, 1}, {0, 10, 0}, {1, 0, 9}, {2, 0, 0}, {2, 0, math.MaxInt}, {2, 1, 1}, {10, 0, 0}, {math.MaxInt, 0, 0}, {math.MaxInt, math.MaxInt, math.MaxInt}}
	random := rand.New(rand.NewSource(9))
	for range 50 {
		x := newBag(t, len(rising))
		for _, i := range random.Perm(len(rising)) {
			x.Add(random.Intn(4), rising[i])
		}
		l := x.Content(span(0, 4))
		if got := bag.Keys(l); !slices.Equal(got, rising) {
			t.Fatalf("P9.1: the order of a content: %v", got)
		}
	}
}

func TestLast(t *testing.T) {
	x := newBag(t, 20)
	for _, e := range []element{{4, c}, {5, b}, {3, a}, {5, b}, {4, b}, {9, a}, {-2, b}} {
		x.Add(e.time, e.key)
	}
	for w, want := range map[window.Span]map[dict.Key]int{
		span(3, 6):   {a: 3, b: 5, c: 4},
		span(3, 5):   {a: 3, b: 4, c: 4},
		span(-9, 99): {a: 9, b: 5, c: 4},
		span(-9, 3):  {b: -2},
		span(6, 9):   nil,
		span(9, 3):   nil,
	} {
		if got := x.Last(w); !maps.Equal(got, want) {
			t.Errorf("P9.1: Last of %v: %v, want %v", w, got, want)
		}
	}
}

// TestFarTimes: an element's time may be any int; to a while those beyond 2^61 are as that, but they are told as they are.
func TestFarTimes(t *testing.T) {
	far := []int{
		math.MinInt, math.MinInt + 1, -farthest - 2, -farthest - 1, -farthest, -farthest + 1, -1,
		0, 1, farthest - 1, farthest, farthest + 1, farthest + 2, math.MaxInt - 1, math.MaxInt,
	}
	p := newPair(t, 99)
	for i, time := range far {
		p.addAll(api.OK, element{time, a}, element{time, dict.Key{i, 0, 0}})
	}
	p.sameInAll(far...)
	if last := p.b.Last(span(farthest, farthest+1)); last[a] != math.MaxInt {
		t.Errorf("P9.1: Last of the farthest times: %v", last)
	}
	for _, time := range far { // each alone
		newPair(t, 1, element{time, a}).sameInAll(far...)
	}
}

// TestTimes: they rise, as often as they are gone through, and end as soon as they are told to.
func TestTimes(t *testing.T) {
	x := newBag(t, 20)
	for _, e := range []element{{5, a}, {-3, b}, {5, b}, {0, a}, {5, a}, {math.MinInt, a}, {math.MaxInt, a}, {-3, b}} {
		x.Add(e.time, e.key)
	}
	want := [][2]int{{math.MinInt, 1}, {-3, 2}, {0, 1}, {5, 3}, {math.MaxInt, 1}}
	all := x.Times()
	for end := range len(want) {
		var l [][2]int
		all(func(time, many int) bool {
			l = append(l, [2]int{time, many})
			return len(l) <= end
		})
		if !slices.Equal(l, want[:end+1]) {
			t.Errorf("P9.1: Times till the consumer says no at %d: %v", end, l)
		}
	}
	turns := 0
	for time, many := range all { // within one another
		if l := timesOf(x); !slices.Equal(l, want) || [2]int{time, many} != want[turns] {
			t.Errorf("P9.1: Times within Times: %d, %d, %v", time, many, l)
		}
		turns++
	}
	if turns != len(want) {
		t.Errorf("P9.1: Times: %d, want %d", turns, len(want))
	}
	for range newBag(t, 1).Times() {
		t.Error("P9.1: Times of no elements")
	}
}

func TestSame(t *testing.T) {
	all := []bag.Entry{{a, 1}, {b, 2}, {c, 1}}
	others := [][]bag.Entry{
		nil, {{a, 1}}, {{a, 1}, {b, 2}}, {{b, 2}, {c, 1}}, {{a, 1}, {c, 1}}, {{a, 1}, {b, 2}, {dict.Key{1, 0, 3}, 1}}, {{a, 1}, {b, 1}, {c, 1}},
		{{a, 1}, {b, 2}, {c, 2}}, {{a, 2}, {b, 2}, {c, 1}}, {{dict.Key{0, 9, 8}, 1}, {b, 2}, {c, 1}}, {{dict.Key{0, 8, 9}, 1}, {b, 2}, {c, 1}},
		{{a, 1}, {b, 2}, {c, 1}, {dict.Key{2, 0, 0}, 1}},
	}
	for i, l := range others {
		if bag.Same(all, l) || bag.Same(l, all) {
			t.Errorf("P9.1: %v is the same as %v", all, l)
		}
		for k, x := range others {
			if bag.Same(l, x) != (i == k) {
				t.Errorf("P9.1: Same of %v and %v: %v", l, x, i != k)
			}
		}
		if !bag.Same(l, slices.Clone(l)) {
			t.Errorf("P9.1: %v isn't the same as itself", l)
		}
	}
	if !bag.Same(nil, []bag.Entry{}) || !bag.Same([]bag.Entry{}, nil) || !bag.Same(nil, nil) {
		t.Error("P9.1: empty contents aren't the same")
	}
}

// TestSameOfBags: contents are the same by what is in them, not by when and in which order it came.
func TestSameOfBags(t *testing.T) {
	x, y := newBag(t, 9), newBag(t, 9)
	for i, k := range []dict.Key{a, b, a, c} {
		x.Add(i, k)
		y.Add(20-i, k)
	}
	w := span(0, 99)
	if !bag.Same(x.Content(w), y.Content(w)) || bag.Same(x.Content(w), x.Content(span(1, 99))) || !bag.Same(x.Content(span(0, 0)), y.Content(span(0, 1))) {
		t.Errorf("P9.1: Same of %v, %v", x.Content(w), y.Content(w))
	}
}

func TestKeys(t *testing.T) {
	for _, n := range upTo(0, 3) {
		keys := []dict.Key{a, b, c}[:n]
		var l []bag.Entry
		for i, k := range keys {
			l = append(l, bag.Entry{Key: k, Many: i + 1})
		}
		if got := bag.Keys(l); !slices.Equal(got, keys) {
			t.Errorf("P9.1: Keys of %v: %v", l, got)
		}
	}
	if got := bag.Keys([]bag.Entry{}); len(got) != 0 {
		t.Errorf("P9.1: Keys of an empty content: %v", got)
	}
}

// spoil writes into a list, its spare room included.
func spoil[T any](l []T, wrong T) {
	l = l[:cap(l)]
	for i := range l {
		l[i] = wrong
	}
}

// TestAnswersAreNew: what was answered is the caller's, and stays as it is whatever is done next.
func TestAnswersAreNew(t *testing.T) {
	p := newPair(t, 30)
	w := span(0, 9)
	for i := range 20 {
		p.addAll(api.OK, element{i % 10, dict.Key{i % 7, 0, 0}})
		l, last := p.b.Content(w), p.b.Last(w)
		keys := bag.Keys(l)
		oldL, oldLast, oldKeys := slices.Clone(l), maps.Clone(last), slices.Clone(keys)
		for _, x := range [][]bag.Entry{p.b.Content(w), p.b.Content(span(i%10, i%10+1))} {
			spoil(bag.Keys(x), dict.Key{-7, -7, -7})
			spoil(x, bag.Entry{Key: dict.Key{-9, -9, -9}, Many: -9})
		}
		for _, x := range []map[dict.Key]int{p.b.Last(w), p.b.Last(span(i%10, i%10+1))} {
			for k := range x {
				x[k] = -9
			}
			x[dict.Key{-9, -9, -9}] = 1
		}
		p.same()
		p.addAll(api.OK, element{0, dict.Key{99, 0, 0}})
		p.removeAll(api.OK, element{0, dict.Key{99, 0, 0}})
		if !slices.Equal(l, oldL) || !maps.Equal(last, oldLast) || !slices.Equal(keys, oldKeys) {
			t.Fatalf("P9.1: an answer has changed: %v, %v, %v", l, last, keys)
		}
	}
}

// TestArgumentsStay: contents that are handed in are neither changed nor kept.
func TestArgumentsStay(t *testing.T) {
	room := []bag.Entry{{a, 1}, {b, 2}, {c, 1}, {c, 5}}
	l, old := room[:3], slices.Clone(room)
	bag.Same(l, []bag.Entry{{b, 2}})
	keys := bag.Keys(l)
	spoil(keys, dict.Key{7, 7, 7})
	if !slices.Equal(room, old) {
		t.Errorf("P9.1: what was handed in has changed: %v", room)
	}
	keys = bag.Keys(l)
	spoil(room, bag.Entry{})
	if !slices.Equal(keys, []dict.Key{a, b, c}) {
		t.Errorf("P9.1: Keys hang on what was handed in: %v", keys)
	}
}

// TestErrorsLeaveAll: a bag goes on behind errors as one that never had them.
func TestErrorsLeaveAll(t *testing.T) {
	random := rand.New(rand.NewSource(99))
	for range 200 {
		room := 1 + random.Intn(6)
		x, other := newBag(t, room), newBag(t, room)
		for range 60 {
			time, k := random.Intn(4), dict.Key{random.Intn(3) - 1, 0, random.Intn(2)}
			if random.Intn(2) == 0 {
				if x.Add(time, k) == api.OK && other.Add(time, k) != api.OK {
					t.Fatalf("P9.1: Add(%d, %v) hangs on errors", time, k)
				}
			} else if x.Remove(time, k) == api.OK && other.Remove(time, k) != api.OK {
				t.Fatalf("P9.1: Remove(%d, %v) hangs on errors", time, k)
			}
			w := span(random.Intn(5), random.Intn(5))
			if x.Len() != other.Len() || !slices.Equal(timesOf(x), timesOf(other)) || !bag.Same(x.Content(w), other.Content(w)) {
				t.Fatalf("P9.1: behind errors: %v, want %v", x.Content(w), other.Content(w))
			}
		}
	}
}

// TestApart: what one bag does is nothing to another one.
func TestApart(t *testing.T) {
	p, other := newPair(t, 3, element{5, a}, element{6, b}), newPair(t, 2)
	other.addAll(api.OK, element{5, a}, element{6, c})
	p.same()
	other.expire(6)
	p.same()
	p.removeAll(api.OK, element{6, b})
	other.same()
	p.addAll(api.OK, element{5, a}, element{5, a})
	other.same()
}

// eachRow gives all rows of some many calls, by their numbers.
func eachRow(calls, many int, do func(row []int)) {
	total := 1
	for range many {
		total *= calls
	}
	row := make([]int, many)
	for n := range total {
		for i := range row {
			row[i] = n % calls
			n /= calls
		}
		do(row)
	}
}

// TestAllOfFew: whatever few calls are made, the answers are as the chapter says.
func TestAllOfFew(t *testing.T) {
	calls := []func(p *pair){
		func(p *pair) { p.add(element{0, a}) }, func(p *pair) { p.add(element{0, b}) }, func(p *pair) { p.add(element{1, a}) },
		func(p *pair) { p.remove(element{0, a}) }, func(p *pair) { p.remove(element{0, b}) }, func(p *pair) { p.remove(element{1, a}) },
		func(p *pair) { p.expire(1) }, func(p *pair) { p.expire(2) },
	}
	for room := 2; room <= 4; room += 2 {
		eachRow(len(calls), 5, func(row []int) {
			p := newPair(t, room)
			for _, i := range row {
				calls[i](p)
				p.same()
			}
			p.sameInAll(0, 1, 2)
		})
	}
}

// TestOfMany: so it is of many calls, of all whiles.
func TestOfMany(t *testing.T) {
	random := rand.New(rand.NewSource(90))
	for range 60 {
		p := newPair(t, 1+random.Intn(80))
		now, spread := random.Intn(40)-20, 1+random.Intn(12)
		for range 300 {
			x := element{now + random.Intn(spread), dict.Key{random.Intn(3), random.Intn(2), random.Intn(2) * 5}}
			switch random.Intn(12) {
			case 0:
				now += random.Intn(3)
				p.expire(now)
			case 1, 2, 3:
				p.remove(x)
			default:
				p.add(x)
			}
			open := now + random.Intn(spread+4) - 2
			p.sameIn(span(open, open+random.Intn(spread+2)-1))
		}
		p.same()
		p.sameInAll(upTo(now-3, now+spread+3)...)
	}
}
