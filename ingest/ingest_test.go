package ingest_test

import (
	"cmp"
	"math"
	"math/rand"
	"slices"
	"testing"

	"beck/api"
	"beck/dict"
	"beck/ingest"
)

// outside are numbers that are no instants.
var outside = []int{math.MinInt, math.MinInt + 1, -2 * api.MaxTime, -api.MaxTime - 1, api.MaxTime + 1, 2 * api.MaxTime, math.MaxInt}

// keyOf is a key by which a call can be told from others.
func keyOf(i int) dict.Key { return dict.Key{i, -i, 7 * i} }

// compare holds two items against each other by times, and then numbers.
func compare(a, b ingest.Item) int {
	return cmp.Or(cmp.Compare(a.Time, b.Time), cmp.Compare(a.Seq, b.Seq))
}

// model has the chapter's words in the plainest way: lists of all that came.
type model struct {
	lateness, room int
	seen, shown    []int
	waits          []ingest.Item
	next, late     int
	closed         bool
}

func isInstant(time int) bool { return -api.MaxTime <= time && time <= api.MaxTime }

func (m *model) mark() (int, bool) {
	all := slices.Concat(m.seen, m.shown)
	if len(all) == 0 {
		return 0, false
	}
	return slices.Max(all) - m.lateness, true
}

func (m *model) push(time int, k dict.Key) api.Errno {
	if m.closed {
		return api.ErrOrder
	}
	if !isInstant(time) {
		return api.ErrRange
	}
	if mark, ok := m.mark(); ok && time < mark {
		m.late++
		return api.ErrLate
	}
	if len(m.waits) == m.room {
		return api.ErrFull
	}
	m.waits = append(m.waits, ingest.Item{Time: time, Seq: m.next, Key: k})
	m.next++
	m.seen = append(m.seen, time)
	return api.OK
}

func (m *model) tick(clock int) api.Errno {
	if m.closed {
		return api.ErrOrder
	}
	if !isInstant(clock) {
		return api.ErrRange
	}
	if len(m.shown) > 0 && m.shown[len(m.shown)-1] > clock {
		return api.ErrClock
	}
	m.shown = append(m.shown, clock)
	return api.OK
}

func (m *model) take() []ingest.Item {
	var out, stay []ingest.Item
	mark, ok := m.mark()
	for _, x := range m.waits {
		if ok && x.Time < mark {
			out = append(out, x)
		} else {
			stay = append(stay, x)
		}
	}
	m.waits = stay
	slices.SortFunc(out, compare)
	return out
}

func (m *model) flush() []ingest.Item {
	out := slices.SortedFunc(slices.Values(m.waits), compare)
	m.waits, m.closed = nil, true
	return out
}

// pair is a buffer, and the model that it is held against.
type pair struct {
	t *testing.T
	b *ingest.Buffer
	m *model
	n int // calls of Push
}

func newBuffer(t *testing.T, lateness, room int) *ingest.Buffer {
	t.Helper()
	b, e := ingest.New(lateness, room)
	if e != api.OK || b == nil {
		t.Fatalf("P7.1: New(%d, %d): %d", lateness, room, e)
	}
	return b
}

func newPair(t *testing.T, lateness, room int) *pair {
	t.Helper()
	p := &pair{t: t, b: newBuffer(t, lateness, room), m: &model{lateness: lateness, room: room}}
	p.same()
	return p
}

// same checks that both tell the same of themselves.
func (p *pair) same() {
	p.t.Helper()
	mark, ok := p.b.Mark()
	if want, is := p.m.mark(); mark != want || ok != is {
		p.t.Fatalf("P7.1: Mark: %d, %v, want %d, %v", mark, ok, want, is)
	}
	if p.b.Len() != len(p.m.waits) || p.b.Late() != p.m.late || p.b.Closed() != p.m.closed {
		p.t.Fatalf("P7.1: Len, Late, Closed: %d, %d, %v, want %d, %d, %v", p.b.Len(), p.b.Late(), p.b.Closed(), len(p.m.waits), p.m.late, p.m.closed)
	}
}

func (p *pair) push(time int) api.Errno {
	p.t.Helper()
	p.n++
	e := p.b.Push(time, keyOf(p.n))
	if want := p.m.push(time, keyOf(p.n)); e != want {
		p.t.Fatalf("P7.1: Push(%d): %d, want %d", time, e, want)
	}
	p.same()
	return e
}

func (p *pair) tick(clock int) api.Errno {
	p.t.Helper()
	e := p.b.Tick(clock)
	if want := p.m.tick(clock); e != want {
		p.t.Fatalf("P7.1: Tick(%d): %d, want %d", clock, e, want)
	}
	p.same()
	return e
}

func (p *pair) take() []ingest.Item {
	p.t.Helper()
	l := p.b.Take()
	if want := p.m.take(); !slices.Equal(l, want) {
		p.t.Fatalf("P7.1: Take: %v, want %v", l, want)
	}
	p.same()
	return l
}

func (p *pair) flush() []ingest.Item {
	p.t.Helper()
	l := p.b.Flush()
	if want := p.m.flush(); !slices.Equal(l, want) {
		p.t.Fatalf("P7.1: Flush: %v, want %v", l, want)
	}
	p.same()
	return l
}

// pushAll and tickAll check each time's answer against one that is written out, too, so that the model isn't the only judge.
func (p *pair) pushAll(want api.Errno, times ...int) {
	p.t.Helper()
	for _, time := range times {
		if e := p.push(time); e != want {
			p.t.Errorf("P7.1: Push(%d): %d, want %d", time, e, want)
		}
	}
}

func (p *pair) tickAll(want api.Errno, clocks ...int) {
	p.t.Helper()
	for _, clock := range clocks {
		if e := p.tick(clock); e != want {
			p.t.Errorf("P7.1: Tick(%d): %d, want %d", clock, e, want)
		}
	}
}

// told checks the times and the numbers of what was taken or flushed.
func told(t *testing.T, l []ingest.Item, want ...[2]int) {
	t.Helper()
	if !slices.EqualFunc(l, want, func(x ingest.Item, y [2]int) bool { return x.Time == y[0] && x.Seq == y[1] }) {
		t.Errorf("P7.1: %v, want times and numbers %v", l, want)
	}
}

func TestNew(t *testing.T) {
	for _, lateness := range []int{0, 1, api.MaxTime - 1, api.MaxTime} {
		for _, room := range []int{1, 2, api.MaxBuffer - 1, api.MaxBuffer} {
			p := newPair(t, lateness, room)
			told(t, p.take())
			told(t, p.flush())
		}
	}
	refused := func(lateness, room int) {
		t.Helper()
		if b, e := ingest.New(lateness, room); b != nil || e != api.ErrRange {
			t.Errorf("P7.1: New(%d, %d): %v, %d", lateness, room, b, e)
		}
	}
	for _, lateness := range []int{-1, math.MinInt, -api.MaxTime, api.MaxTime + 1, math.MaxInt} {
		refused(lateness, 1)
		refused(lateness, api.MaxBuffer)
		refused(lateness, 0)
	}
	for _, room := range []int{0, -1, math.MinInt, api.MaxBuffer + 1, api.MaxTime, math.MaxInt} {
		refused(0, room)
		refused(api.MaxTime, room)
	}
}

// TestExample: of lateness 3, behind a time 10 an item of 7 isn't late, one of 6 is.
func TestExample(t *testing.T) {
	p := newPair(t, 3, 10)
	p.pushAll(api.OK, 10, 7)
	p.pushAll(api.ErrLate, 6)
	if p.b.Late() != 1 || p.b.Len() != 2 {
		t.Errorf("P7.1: Late, Len: %d, %d, want 1, 2", p.b.Late(), p.b.Len())
	}
	told(t, p.flush(), [2]int{7, 1}, [2]int{10, 0})
}

// TestOrderOfErrors: each call answers the first error of those that its words name.
func TestOrderOfErrors(t *testing.T) {
	p := newPair(t, 2, 2)
	p.pushAll(api.ErrRange, outside...)
	p.tickAll(api.ErrRange, outside...)
	p.tickAll(api.OK, 10)
	p.pushAll(api.ErrLate, 7)
	p.pushAll(api.OK, 8, 9)
	p.pushAll(api.ErrFull, 8, 9, 10, 11, api.MaxTime)
	p.pushAll(api.ErrLate, 7, -api.MaxTime) // there is no room either
	p.pushAll(api.ErrRange, outside...)     // some of them below the mark
	p.tickAll(api.ErrRange, outside...)     // some of them ahead of the clock
	p.tickAll(api.ErrClock, 9, 0, -api.MaxTime)
	if p.b.Late() != 3 {
		t.Errorf("P7.1: Late: %d, want 3", p.b.Late())
	}
	told(t, p.flush(), [2]int{8, 0}, [2]int{9, 1})
	p.pushAll(api.ErrOrder, 8, 20, 7, -api.MaxTime)
	p.pushAll(api.ErrOrder, outside...)
	p.tickAll(api.ErrOrder, 10, 20, 9)
	p.tickAll(api.ErrOrder, outside...)
	if mark, ok := p.b.Mark(); mark != 8 || !ok || p.b.Late() != 3 {
		t.Errorf("P7.1: behind a Flush: %d, %v, %d", mark, ok, p.b.Late())
	}
}

// TestInstants: the least and the greatest instant, with the least and the greatest lateness.
func TestInstants(t *testing.T) {
	const least, greatest = -api.MaxTime, api.MaxTime
	p := newPair(t, greatest, 10)
	p.pushAll(api.OK, least)
	if mark, ok := p.b.Mark(); mark != 2*least || !ok {
		t.Errorf("P7.1: Mark: %d, %v", mark, ok)
	}
	p.tickAll(api.OK, least, 0)
	p.pushAll(api.OK, least, greatest)
	p.pushAll(api.ErrLate, -1, least)
	p.pushAll(api.OK, 0)
	told(t, p.take(), [2]int{least, 0}, [2]int{least, 1})
	told(t, p.flush(), [2]int{0, 3}, [2]int{greatest, 2})

	p = newPair(t, 0, 10)
	p.pushAll(api.OK, least, least)
	told(t, p.take())
	p.pushAll(api.OK, greatest)
	p.pushAll(api.ErrLate, greatest-1)
	told(t, p.take(), [2]int{least, 0}, [2]int{least, 1})
	p.tickAll(api.OK, greatest)
	told(t, p.take())
	told(t, p.flush(), [2]int{greatest, 2})
}

// TestMark: it comes of the first time that is seen, or that the clock shows, and goes on with the greatest.
func TestMark(t *testing.T) {
	mark := func(p *pair, want int) {
		t.Helper()
		if got, ok := p.b.Mark(); got != want || !ok {
			t.Errorf("P7.1: Mark: %d, %v, want %d", got, ok, want)
		}
	}
	p := newPair(t, 5, 3)
	p.pushAll(api.OK, -100) // ahead of 0, as of all that isn't there
	mark(p, -105)
	p.pushAll(api.OK, -102)
	mark(p, -105)
	p.tickAll(api.OK, -103, -101, -100) // a clock may be behind what was seen
	mark(p, -105)
	p.tickAll(api.OK, -98)
	mark(p, -103)
	p.pushAll(api.OK, -97)
	mark(p, -102)
	p.pushAll(api.ErrFull, 50) // which isn't seen
	mark(p, -102)
	p.tickAll(api.OK, -97, -97)
	p.tickAll(api.ErrClock, -98)
	mark(p, -102)
	p.flush()
	mark(p, -102)

	p = newPair(t, 5, 1)
	p.tickAll(api.OK, -100)
	mark(p, -105)
	p.pushAll(api.ErrLate, -106)
	p.pushAll(api.OK, -105)
	mark(p, -105)
}

// TestClock: what is seen doesn't put the clock on, nor does a clock that goes back.
func TestClock(t *testing.T) {
	p := newPair(t, 0, 9)
	p.pushAll(api.OK, 50)
	p.tickAll(api.OK, -7)
	p.pushAll(api.ErrLate, 49)
	p.tickAll(api.ErrClock, -8)
	p.tickAll(api.OK, -7, 3)
	p.tickAll(api.ErrClock, 2, -7)
	p.tickAll(api.OK, 3, 4)
}

func TestTake(t *testing.T) {
	p := newPair(t, 10, 9)
	p.pushAll(api.OK, 5, 3, 5, 4, 3, 9, 3)
	told(t, p.take())
	p.tickAll(api.OK, 13)
	told(t, p.take()) // none is below 3
	p.tickAll(api.OK, 14)
	told(t, p.take(), [2]int{3, 1}, [2]int{3, 4}, [2]int{3, 6})
	told(t, p.take())
	p.pushAll(api.OK, 4, 15) // its own time puts the mark on, too
	told(t, p.take(), [2]int{4, 3}, [2]int{4, 7})
	p.pushAll(api.OK, 5)
	p.tickAll(api.OK, 16)
	told(t, p.take(), [2]int{5, 0}, [2]int{5, 2}, [2]int{5, 9})
	told(t, p.flush(), [2]int{9, 5}, [2]int{15, 8})
}

// TestFlush: all that waits, below the mark and behind it; then the buffer is closed.
func TestFlush(t *testing.T) {
	p := newPair(t, 2, 9)
	p.pushAll(api.OK, 8, 6, 8, 20, 18, 19, 20, 18)
	told(t, p.flush(), [2]int{6, 1}, [2]int{8, 0}, [2]int{8, 2}, [2]int{18, 4}, [2]int{18, 7}, [2]int{19, 5}, [2]int{20, 3}, [2]int{20, 6})
	for range 2 {
		told(t, p.take())
		told(t, p.flush())
		p.pushAll(api.ErrOrder, 20)
		p.tickAll(api.ErrOrder, 20)
	}
	if mark, ok := p.b.Mark(); mark != 18 || !ok || !p.b.Closed() || p.b.Len() != 0 || p.b.Late() != 0 {
		t.Errorf("P7.1: behind a Flush: %d, %v, %v, %d, %d", mark, ok, p.b.Closed(), p.b.Len(), p.b.Late())
	}
	p = newPair(t, 0, 1)
	told(t, p.flush()) // of nothing
	p.pushAll(api.ErrOrder, 0)
	if mark, ok := p.b.Mark(); mark != 0 || ok || !p.b.Closed() {
		t.Errorf("P7.1: behind a Flush of nothing: %d, %v, %v", mark, ok, p.b.Closed())
	}
}

// TestRoom: all that waits has room, be it below the mark or not; what is gone leaves its own.
func TestRoom(t *testing.T) {
	for _, room := range []int{1, 2, 7, api.MaxBuffer} {
		p := newPair(t, 2*room, room)
		for i := range room {
			p.pushAll(api.OK, room-i)
		}
		p.pushAll(api.ErrFull, 1, room)
		p.tickAll(api.OK, 2*room+2)
		p.pushAll(api.ErrFull, room+2) // one is below the mark, but wasn't taken
		told(t, p.take(), [2]int{1, room - 1})
		p.pushAll(api.OK, 2) // no number is lost by what found no room
		p.pushAll(api.ErrFull, 2)
		want := [][2]int{{2, room}}
		for i := 2; i <= room; i++ {
			want = append(want, [2]int{i, room - i})
		}
		slices.SortFunc(want, func(a, b [2]int) int { return slices.Compare(a[:], b[:]) })
		told(t, p.flush(), want...)
	}
}

// eachRow gives all rows of some many calls, by their numbers.
func eachRow(calls, many int, do func(row []int)) {
	row := make([]int, many)
	for {
		do(row)
		i := 0
		for ; i < many; i++ {
			row[i]++
			if row[i] < calls {
				break
			}
			row[i] = 0
		}
		if i == many {
			return
		}
	}
}

// TestAllOfFew: whatever few calls are made, the answers are as the chapter says.
func TestAllOfFew(t *testing.T) {
	calls := []func(p *pair){
		func(p *pair) { p.push(-1) }, func(p *pair) { p.push(0) }, func(p *pair) { p.push(1) }, func(p *pair) { p.push(2) },
		func(p *pair) { p.tick(0) }, func(p *pair) { p.tick(1) }, func(p *pair) { p.tick(3) },
		func(p *pair) { p.take() }, func(p *pair) { p.flush() },
	}
	for lateness := range 3 {
		eachRow(len(calls), 5, func(row []int) {
			p := newPair(t, lateness, 2)
			for _, i := range row {
				calls[i](p)
			}
			p.flush()
		})
	}
}

// TestOfMany: so it is of many calls, with items that wait in hundreds.
func TestOfMany(t *testing.T) {
	random := rand.New(rand.NewSource(7))
	for range 200 {
		lateness := random.Intn(300)
		p := newPair(t, lateness, 1+random.Intn(api.MaxBuffer))
		now := random.Intn(2000) - 1000
		for range 500 {
			now += random.Intn(3)
			switch random.Intn(40) {
			case 0:
				p.take()
			case 1:
				p.tick(now - random.Intn(20))
			case 2:
				p.push(outside[random.Intn(len(outside))])
			default:
				p.push(now - random.Intn(lateness+lateness/8+1))
			}
		}
		p.take()
		p.flush()
		p.push(now)
		p.take()
	}
}

// TestAnyOrder: items that aren't late come out by rising times, and all of them, whatever their order, and whenever they are taken.
func TestAnyOrder(t *testing.T) {
	random := rand.New(rand.NewSource(70))
	for turn := range 300 {
		many := 1 + random.Intn(60)
		base := []int{0, -500, api.MaxTime - 99, -api.MaxTime}[turn%4]
		times := make([]int, many)
		for i := range times {
			times[i] = base + random.Intn(1+turn%99)
		}
		want := slices.Sorted(slices.Values(times))
		lateness := want[many-1] - want[0] // just so much that none can be late
		for range 5 {
			random.Shuffle(many, func(i, k int) { times[i], times[k] = times[k], times[i] })
			comesOut(t, random, lateness, times, want)
		}
	}
}

// comesOut pushes times in their order, takes between, and checks what comes out in the end.
func comesOut(t *testing.T, random *rand.Rand, lateness int, times, want []int) {
	t.Helper()
	b := newBuffer(t, lateness, api.MaxBuffer)
	var out []ingest.Item
	clock := want[0]
	for i, time := range times {
		if e := b.Push(time, keyOf(i)); e != api.OK {
			t.Fatalf("P7.2: Push(%d): %d", time, e)
		}
		if random.Intn(3) == 0 {
			clock += random.Intn(want[len(want)-1] - clock + 1) // not later than the last one of all
			if e := b.Tick(clock); e != api.OK {
				t.Fatalf("P7.2: Tick(%d): %d", clock, e)
			}
		}
		if random.Intn(4) == 0 {
			out = append(out, b.Take()...)
		}
	}
	out = append(out, b.Flush()...)
	isWhole(t, out, times, want)
}

// isWhole checks that items rise, and are just those of the times that were pushed, with their keys.
func isWhole(t *testing.T, out []ingest.Item, times, want []int) {
	t.Helper()
	if len(out) != len(want) {
		t.Fatalf("P7.2: %d items came out of %d", len(out), len(want))
	}
	for i, x := range out {
		if x.Time != want[i] || x.Time != times[x.Seq] || x.Key != keyOf(x.Seq) {
			t.Fatalf("P7.2: %v came out at %d, want time %d", x, i, want[i])
		}
		if i > 0 && compare(out[i-1], x) >= 0 {
			t.Fatalf("P7.2: %v came out behind %v", x, out[i-1])
		}
	}
}

// TestRisingOverTakes: though some are too late, what is taken, call by call, and flushed in the end, rises, and is all that wasn't.
func TestRisingOverTakes(t *testing.T) {
	random := rand.New(rand.NewSource(77))
	for range 300 {
		lateness := random.Intn(20)
		b := newBuffer(t, lateness, api.MaxBuffer)
		var out []ingest.Item
		var times []int
		now := 0
		for range 200 {
			now += random.Intn(4)
			time := now - random.Intn(2*lateness+2)
			if b.Push(time, keyOf(len(times))) == api.OK {
				times = append(times, time)
			}
			if random.Intn(3) == 0 {
				out = append(out, b.Take()...)
			}
		}
		if b.Late()+len(times) != 200 {
			t.Fatalf("P7.1: Late: %d, %d came in time", b.Late(), len(times))
		}
		out = append(out, b.Flush()...)
		isWhole(t, out, times, slices.Sorted(slices.Values(times)))
	}
}

// TestErrorsLeaveAll: a buffer goes on behind errors as one that never had them, but for the count of what was too late.
func TestErrorsLeaveAll(t *testing.T) {
	random := rand.New(rand.NewSource(777))
	for range 300 {
		lateness, room := random.Intn(9), 1+random.Intn(6)
		b, other := newBuffer(t, lateness, room), newBuffer(t, lateness, room)
		for i := range 60 {
			time := random.Intn(30)
			switch random.Intn(6) {
			case 0:
				if b.Tick(time) == api.OK && other.Tick(time) != api.OK {
					t.Fatalf("P7.1: Tick(%d) hangs on errors", time)
				}
			case 1:
				if l, want := b.Take(), other.Take(); !slices.Equal(l, want) {
					t.Fatalf("P7.1: Take behind errors: %v, want %v", l, want)
				}
			default:
				if b.Push(time, keyOf(i)) == api.OK && other.Push(time, keyOf(i)) != api.OK {
					t.Fatalf("P7.1: Push(%d) hangs on errors", time)
				}
			}
			mark, ok := b.Mark()
			if want, is := other.Mark(); mark != want || ok != is || b.Len() != other.Len() || other.Late() != 0 {
				t.Fatalf("P7.1: behind errors: %d, %v, %d, want %d, %v, %d", mark, ok, b.Len(), want, is, other.Len())
			}
		}
		if l, want := b.Flush(), other.Flush(); !slices.Equal(l, want) {
			t.Fatalf("P7.1: Flush behind errors: %v, want %v", l, want)
		}
	}
}

// TestAnswersAreNew: a list that was answered is the caller's, spare room included.
func TestAnswersAreNew(t *testing.T) {
	spoil := func(l []ingest.Item) {
		l = l[:cap(l)]
		for i := range l {
			l[i] = ingest.Item{Time: -1, Seq: -1}
		}
	}
	p := newPair(t, 0, 50)
	for turn := range 10 {
		for i := range 20 {
			p.pushAll(api.OK, 10*turn+i/2)
		}
		l := p.take()
		kept := slices.Clone(l)
		spoil(p.take())
		p.pushAll(api.OK, 10*turn+9)
		if !slices.Equal(l, kept) {
			t.Errorf("P7.1: what was taken has changed: %v, was %v", l, kept)
		}
		spoil(l)
	}
	l := p.flush()
	kept := slices.Clone(l)
	spoil(p.b.Flush())
	if !slices.Equal(l, kept) {
		t.Errorf("P7.1: what was flushed has changed: %v, was %v", l, kept)
	}
}

// TestApart: what one buffer does is nothing to another one.
func TestApart(t *testing.T) {
	p, other := newPair(t, 1, 2), newPair(t, 4, 1)
	p.pushAll(api.OK, 10, 9)
	p.pushAll(api.ErrLate, 8)
	other.same()
	other.pushAll(api.OK, -3)
	p.tickAll(api.OK, 20)
	other.tickAll(api.OK, -3)
	other.flush()
	p.same()
	told(t, p.take(), [2]int{9, 1}, [2]int{10, 0})
}

// TestAnyKey: a key is told as it was handed in, whatever its numbers are, and however often it came.
func TestAnyKey(t *testing.T) {
	keys := []dict.Key{{0, 0, 0}, {1, 2, 3}, {-1, -2, -3}, {math.MinInt, 0, math.MaxInt}, {1, 2, 3}, {3, 2, 1}}
	b := newBuffer(t, 0, len(keys))
	var want []ingest.Item
	for i, k := range keys {
		if e := b.Push(4, k); e != api.OK {
			t.Fatalf("P7.1: Push of %v: %d", k, e)
		}
		want = append(want, ingest.Item{Time: 4, Seq: i, Key: k})
	}
	if l := b.Flush(); !slices.Equal(l, want) {
		t.Errorf("P7.1: Flush: %v, want %v", l, want)
	}
}
