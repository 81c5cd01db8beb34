package window_test

import (
	"math"
	"math/big"
	"math/rand"
	"slices"
	"testing"

	"beck/api"
	"beck/window"
)

const (
	widest   = 1 << 40
	farthest = 1 << 61
)

func shape(width, slide, begin int) window.Shape {
	return window.Shape{Width: width, Slide: slide, Begin: begin}
}

func span(open, end int) window.Span { return window.Span{Open: open, Close: end} }

// windows are the first ones of a shape, each told by the chapter's words, up to one that opens behind a time.
func windows(s window.Shape, time int) []window.Span {
	var l []window.Span
	open := s.Begin
	for open <= time {
		l = append(l, span(open, open+s.Width))
		open += s.Slide
	}
	return append(l, span(open, open+s.Width))
}

// those answers the numbers of the windows that are as asked.
func those(l []window.Span, asked func(w window.Span) bool) []int {
	var out []int
	for i, w := range l {
		if asked(w) {
			out = append(out, i)
		}
	}
	return out
}

// reports are all that Reports gives, of which there aren't many where it is asked here.
func reports(t *testing.T, s window.Shape, from, to int) []int {
	t.Helper()
	var l []int
	for i := range s.Reports(from, to) {
		if l = append(l, i); len(l) > 1000 {
			t.Fatalf("P8.1: Reports(%d, %d) of %v doesn't end", from, to, s)
		}
	}
	return l
}

// smallShapes are shapes whose windows may be gone through one by one: overlapping, tumbling, with gaps.
func smallShapes() []window.Shape {
	var l []window.Shape
	for width := 1; width <= 6; width++ {
		for slide := 1; slide <= 6; slide++ {
			for begin := -4; begin <= 4; begin++ {
				l = append(l, shape(width, slide, begin))
			}
		}
	}
	return l
}

// The times at which small shapes are asked: from ahead of each's beginning on.
const (
	early = -12
	late  = 24
)

func TestPolicies(t *testing.T) {
	if window.Close != 0 || window.NonEmpty != 1 || window.Change != 2 {
		t.Errorf("P8.1: the policies: %d, %d, %d", window.Close, window.NonEmpty, window.Change)
	}
}

func TestExample(t *testing.T) {
	s := shape(10, 5, 0)
	if l, e := s.At(7); !slices.Equal(l, []int{0, 1}) || e != api.OK {
		t.Errorf("P8.1: At(7): %v, %d", l, e)
	}
}

func TestGood(t *testing.T) {
	lengths := map[bool][]int{
		true:  {1, 2, 1 << 20, widest - 1, widest},
		false: {math.MinInt, -widest, -1, 0, widest + 1, 1 << 41, 1 << 62, math.MaxInt},
	}
	begins := map[bool][]int{
		true:  {-widest, -widest + 1, -1, 0, 1, widest - 1, widest},
		false: {math.MinInt, -1 << 41, -widest - 1, widest + 1, 1 << 41, math.MaxInt},
	}
	all := []bool{true, false}
	for _, x := range all {
		for _, y := range all {
			for _, z := range all {
				for _, width := range lengths[x] {
					for _, slide := range lengths[y] {
						for _, begin := range begins[z] {
							if s := shape(width, slide, begin); s.Good() != (x && y && z) {
								t.Errorf("P8.1: Good of %v: %v", s, s.Good())
							}
						}
					}
				}
			}
		}
	}
}

func TestTumbling(t *testing.T) {
	for _, s := range smallShapes() {
		if s.Tumbling() != (s.Width == s.Slide) {
			t.Errorf("P8.1: Tumbling of %v: %v", s, s.Tumbling())
		}
	}
	for s, want := range map[window.Shape]bool{
		shape(widest, widest, -widest):  true,
		shape(widest, widest-1, widest): false,
		shape(widest-1, widest, 0):      false,
		shape(7, 7, 3):                  true,
	} {
		if s.Tumbling() != want {
			t.Errorf("P8.1: Tumbling of %v: %v", s, !want)
		}
	}
}

func TestWindow(t *testing.T) {
	for _, s := range smallShapes() {
		for i, want := range windows(s, late) {
			if w, e := s.Window(i); w != want || e != api.OK {
				t.Errorf("P8.1: Window(%d) of %v: %v, %d, want %v", i, s, w, e, want)
			}
		}
	}
	for _, s := range manyShapes() {
		for _, i := range []int{-1, -2, -farthest, math.MinInt, math.MaxInt, 1 << 62} {
			refusesWindow(t, s, i)
		}
	}
}

// TestLastWindow: that which closes at 2^61, or ahead of it by less than a slide, is the last one that is answered.
func TestLastWindow(t *testing.T) {
	for s, last := range map[window.Shape]int{
		shape(1, 1, 0):                   farthest - 1,
		shape(1, 1, -1):                  farthest,
		shape(2, 1, 0):                   farthest - 2,
		shape(10, 5, 0):                  461168601842738788,
		shape(10, 4, -3):                 576460752303423486,
		shape(1, widest, -1):             1 << 21,
		shape(1, widest, 0):              1<<21 - 1,
		shape(widest, widest, -widest):   1 << 21,
		shape(widest, widest, widest):    1<<21 - 2,
		shape(widest, 1, -widest):        farthest,
		shape(widest, 1, widest):         farthest - 1<<41,
		shape(widest, 1, 1):              farthest - widest - 1,
		shape(widest, widest-1, -widest): 2097152,
	} {
		want := span(s.Begin+last*s.Slide, s.Begin+last*s.Slide+s.Width)
		if want.Close > farthest || want.Close+s.Slide <= farthest {
			t.Fatalf("%d isn't the last window of %v", last, s)
		}
		if w, e := s.Window(last); w != want || e != api.OK {
			t.Errorf("P8.1: Window(%d) of %v: %v, %d, want %v", last, s, w, e, want)
		}
		refusesWindow(t, s, last+1)
		refusesWindow(t, s, last+2)
	}
}

func refusesWindow(t *testing.T, s window.Shape, i int) {
	t.Helper()
	if w, e := s.Window(i); w != (window.Span{}) || e != api.ErrRange {
		t.Errorf("P8.1: Window(%d) of %v: %v, %d", i, s, w, e)
	}
}

func TestTimesOfSmallShapes(t *testing.T) {
	for _, s := range smallShapes() {
		l := windows(s, late)
		for time := early; time <= late; time++ {
			in := those(l, func(w window.Span) bool { return w.Open <= time && time < w.Close })
			if got, e := s.At(time); !slices.Equal(got, in) || e != api.OK {
				t.Fatalf("P8.1: At(%d) of %v: %v, %d, want %v", time, s, got, e, in)
			}
			if got := s.Many(time); got != len(in) {
				t.Fatalf("P8.1: Many(%d) of %v: %d, want %d", time, s, got, len(in))
			}
			behind := those(l, func(w window.Span) bool { return w.Close > time })
			if got := s.First(time); got != behind[0] {
				t.Fatalf("P8.1: First(%d) of %v: %d, want %d", time, s, got, behind[0])
			}
			least := l[behind[0]].Open
			for _, i := range behind {
				least = min(least, l[i].Open)
			}
			if got := s.Needed(time); got != least {
				t.Fatalf("P8.1: Needed(%d) of %v: %d, want %d", time, s, got, least)
			}
		}
	}
}

func TestReportsOfSmallShapes(t *testing.T) {
	for _, s := range smallShapes() {
		l := windows(s, late)
		for from := early; from <= late; from++ {
			for to := early; to <= late; to++ {
				want := those(l, func(w window.Span) bool { return from < w.Close && w.Close <= to })
				if got := reports(t, s, from, to); !slices.Equal(got, want) {
					t.Fatalf("P8.1: Reports(%d, %d) of %v: %v, want %v", from, to, s, got, want)
				}
			}
		}
	}
}

func TestReports(t *testing.T) {
	s := shape(10, 4, -3) // its windows close at 7, 11, 15 and so on
	for _, c := range []struct {
		from, to int
		want     []int
	}{
		{-100, 6, nil},
		{-100, 7, []int{0}},
		{6, 7, []int{0}},
		{7, 7, nil},
		{7, 10, nil},
		{7, 11, []int{1}},
		{7, 15, []int{1, 2}},
		{6, 15, []int{0, 1, 2}},
		{15, 7, nil},
		{math.MaxInt, math.MinInt, nil},
		{math.MinInt, 11, []int{0, 1}},
		{math.MinInt, math.MinInt, nil},
		{math.MaxInt, math.MaxInt, nil},
		{math.MinInt, -farthest, nil},
		{farthest, math.MaxInt, nil}, // both are as 2^61
		{farthest - 8, farthest, []int{576460752303423485, 576460752303423486}},
		{farthest - 8, math.MaxInt, []int{576460752303423485, 576460752303423486}},
		{farthest - 8, farthest + 100, []int{576460752303423485, 576460752303423486}},
		{farthest - 4, math.MaxInt, []int{576460752303423486}},
		{farthest - 1, math.MaxInt, nil},
	} {
		if got := reports(t, s, c.from, c.to); !slices.Equal(got, c.want) {
			t.Errorf("P8.1: Reports(%d, %d): %v, want %v", c.from, c.to, got, c.want)
		}
	}
	if got := reports(t, shape(1, 1, -1), farthest-2, math.MaxInt); !slices.Equal(got, []int{farthest - 1, farthest}) {
		t.Errorf("P8.1: Reports up to 2^61: %v", got)
	}
}

// TestReportsEnd: an iterator gives no more as soon as it is told so, and may be gone through again.
func TestReportsEnd(t *testing.T) {
	s := shape(3, 2, 10)
	seq := s.Reports(13, math.MaxInt) // more than anyone may go through
	for many := 1; many < 20; many++ {
		var got []int
		seq(func(i int) bool {
			if got = append(got, i); len(got) > many {
				t.Fatalf("P8.1: Reports goes on, told to end at %d", many)
			}
			return len(got) < many
		})
		if len(got) != many {
			t.Fatalf("P8.1: Reports gives %d of %d", len(got), many)
		}
		for k, i := range got {
			if i != k+1 {
				t.Fatalf("P8.1: Reports: %v", got)
			}
		}
	}
	seq = s.Reports(12, 17)
	for range 3 {
		if got := slices.Collect(seq); !slices.Equal(got, []int{0, 1, 2}) {
			t.Errorf("P8.1: Reports: %v", got)
		}
	}
	for i := range seq {
		for k := range seq { // one run has nothing to do with another one
			if k > i+2 {
				t.Errorf("P8.1: Reports gives %d", k)
			}
		}
	}
}

func TestAtRefuses(t *testing.T) {
	refuses := func(s window.Shape, time int, code api.Errno) {
		t.Helper()
		if l, e := s.At(time); len(l) != 0 || e != code {
			t.Errorf("P8.1: At(%d) of %v: %v, %d, want %d", time, s, l, e, code)
		}
	}
	for _, s := range []window.Shape{shape(10, 5, 0), shape(65, 1, 0), shape(widest, 1, -widest)} {
		for _, time := range []int{math.MinInt, -farthest, -api.MaxTime - 1, api.MaxTime + 1, farthest, math.MaxInt} {
			refuses(s, time, api.ErrRange) // ahead of ErrMany
		}
	}
	refuses(shape(65, 1, 0), 64, api.ErrMany)
	refuses(shape(65, 1, 0), api.MaxTime, api.ErrMany)
	refuses(shape(65, 1, -40), 24, api.ErrMany)
	refuses(shape(widest, 1, 0), widest, api.ErrMany)
	refuses(shape(widest, 1, 0), 64, api.ErrMany)
	refuses(shape(129, 2, 0), 128, api.ErrMany)
}

// TestAtOfMany: up to MaxWindows windows are answered, and the time's own count decides, not the shape.
func TestAtOfMany(t *testing.T) {
	for _, c := range []struct {
		s                 window.Shape
		time, first, many int
	}{
		{shape(64, 1, 0), 63, 0, 64},
		{shape(64, 1, 0), 62, 0, 63},
		{shape(64, 1, 0), 64, 1, 64},
		{shape(64, 1, 0), api.MaxTime, api.MaxTime - 63, 64},
		{shape(65, 1, 0), 63, 0, 64}, // not yet in 65
		{shape(65, 1, -40), 23, 0, 64},
		{shape(129, 2, 0), 127, 0, 64},
		{shape(129, 2, 0), 129, 1, 64},
		{shape(128, 2, 1), 1000, 436, 64},
		{shape(widest, 1, 0), 63, 0, 64},
		{shape(widest, 1<<34, -widest), widest, 65, 64},
		{shape(widest, 1<<34, -widest), -1, 0, 64},
		{shape(1, 1, -widest), -widest, 0, 1},
	} {
		l, e := c.s.At(c.time)
		if e != api.OK || len(l) != c.many || c.s.Many(c.time) != c.many {
			t.Errorf("P8.1: At(%d) of %v: %d windows, %d, want %d", c.time, c.s, len(l), e, c.many)
		}
		for k, i := range l {
			if i != c.first+k {
				t.Errorf("P8.1: At(%d) of %v: %v", c.time, c.s, l)
				break
			}
		}
	}
}

func TestNoWindow(t *testing.T) {
	gaps := shape(2, 10, 5) // 5 and 6, 15 and 16, and so on
	for _, c := range []struct {
		s           window.Shape
		time, first int
	}{
		{gaps, 4, 0}, {gaps, 7, 1}, {gaps, 14, 1}, {gaps, 17, 2}, {gaps, -api.MaxTime, 0},
		{shape(widest, 1, widest), widest - 1, 0},
		{shape(1, widest, -widest), -widest + 1, 1},
		{shape(1, widest, -widest), -1, 1},
		{shape(1, widest, -widest), api.MaxTime - 1, 1<<20 + 1},
	} {
		if l, e := c.s.At(c.time); len(l) != 0 || e != api.OK || c.s.Many(c.time) != 0 {
			t.Errorf("P8.1: At(%d) of %v: %v, %d", c.time, c.s, l, e)
		}
		if got := c.s.First(c.time); got != c.first {
			t.Errorf("P8.1: First(%d) of %v: %d, want %d", c.time, c.s, got, c.first)
		}
		if got, want := c.s.Needed(c.time), c.s.Begin+c.first*c.s.Slide; got != want {
			t.Errorf("P8.1: Needed(%d) of %v: %d, want %d", c.time, c.s, got, want)
		}
	}
}

func TestHas(t *testing.T) {
	for _, c := range []struct {
		w    window.Span
		time int
		want bool
	}{
		{span(2, 4), 1, false}, {span(2, 4), 2, true}, {span(2, 4), 3, true}, {span(2, 4), 4, false},
		{span(2, 4), math.MinInt, false}, {span(2, 4), math.MaxInt, false},
		{span(-4, -2), -5, false}, {span(-4, -2), -4, true}, {span(-4, -2), -3, true}, {span(-4, -2), -2, false},
		{span(3, 3), 3, false}, {span(4, 2), 3, false}, {window.Span{}, 0, false},
		{span(0, farthest), farthest - 1, true}, {span(0, farthest), farthest, false},
		{span(0, farthest), farthest + 1, false}, {span(0, farthest), math.MaxInt, false},
		// Times beyond 2^61 are as that.
		{span(-farthest, 0), -farthest, true}, {span(-farthest, 0), -farthest - 1, true}, {span(-farthest, 0), math.MinInt, true},
		{span(1-farthest, 0), math.MinInt, false}, {span(1-farthest, 0), -farthest, false},
	} {
		if c.w.Has(c.time) != c.want {
			t.Errorf("P8.1: Has(%d) of %v: %v", c.time, c.w, !c.want)
		}
	}
}

// manyShapes are shapes at the edges of their numbers, and between.
func manyShapes() []window.Shape {
	var l []window.Shape
	for _, width := range []int{1, 2, 10, 1000003, widest - 1, widest} {
		for _, slide := range []int{1, 2, 7, 1 << 34, widest - 1, widest} {
			for _, begin := range []int{-widest, -widest + 1, -5, 0, 3, widest - 1, widest} {
				l = append(l, shape(width, slide, begin))
			}
		}
	}
	return l
}

// manyTimes are times at the edges: of all numbers, of instants, of what is told apart, of shapes' beginnings.
func manyTimes() []int {
	l := []int{math.MinInt, math.MinInt + 1, math.MaxInt - 1, math.MaxInt}
	for _, n := range []int{0, 1 << 62, farthest, api.MaxTime, widest, 2 * widest} {
		for d := -2; d <= 2; d++ {
			l = append(l, n+d, -n+d)
		}
	}
	random := rand.New(rand.NewSource(8))
	for range 100 {
		l = append(l, int(random.Uint64())>>random.Intn(60))
	}
	return l
}

func whole(n int) *big.Int { return big.NewInt(int64(n)) }

// opening is when a window opens, whatever its number is.
func opening(s window.Shape, i int) *big.Int {
	n := new(big.Int).Mul(whole(i), whole(s.Slide))
	return n.Add(n, whole(s.Begin))
}

func closing(s window.Shape, i int) *big.Int {
	n := opening(s, i)
	return n.Add(n, whole(s.Width))
}

// told is a time as it is told apart from others.
func told(time int) *big.Int {
	switch {
	case time > farthest:
		return whole(farthest)
	case time < -farthest:
		return whole(-farthest)
	}
	return whole(time)
}

// TestAnyTime: First, Many, Needed and At keep to the words at all times, reckoned with integers of any size.
func TestAnyTime(t *testing.T) {
	for _, s := range manyShapes() {
		for _, time := range manyTimes() {
			first, many, at := s.First(time), s.Many(time), told(time)
			if first < 0 || closing(s, first).Cmp(at) <= 0 || first > 0 && closing(s, first-1).Cmp(at) > 0 {
				t.Fatalf("P8.1: First(%d) of %v: %d", time, s, first)
			}
			// The last one that it is in has opened, and the one behind hasn't.
			if many < 0 || many > 0 && opening(s, first+many-1).Cmp(at) > 0 || opening(s, first+many).Cmp(at) <= 0 {
				t.Fatalf("P8.1: Many(%d) of %v: %d, first %d", time, s, many, first)
			}
			if needed := s.Needed(time); opening(s, first).Cmp(whole(needed)) != 0 {
				t.Fatalf("P8.1: Needed(%d) of %v: %d", time, s, needed)
			}
			holdsAt(t, s, time, first, many)
		}
	}
}

// holdsAt checks what At answers by what First and Many tell.
func holdsAt(t *testing.T, s window.Shape, time, first, many int) {
	t.Helper()
	l, e := s.At(time)
	switch {
	case time < -api.MaxTime || time > api.MaxTime:
		if len(l) != 0 || e != api.ErrRange {
			t.Fatalf("P8.1: At(%d) of %v: %v, %d", time, s, l, e)
		}
	case many > api.MaxWindows:
		if len(l) != 0 || e != api.ErrMany {
			t.Fatalf("P8.1: At(%d) of %v: %v, %d", time, s, l, e)
		}
	default:
		if len(l) != many || e != api.OK || many > 0 && l[0] != first {
			t.Fatalf("P8.1: At(%d) of %v: %v, %d", time, s, l, e)
		}
		if !slices.IsSorted(l) || len(slices.Compact(slices.Clone(l))) != many || many > 0 && l[many-1] != first+many-1 {
			t.Fatalf("P8.1: At(%d) of %v: %v", time, s, l)
		}
	}
}

// TestBeyond: times beyond 2^61, on either side, are as that.
func TestBeyond(t *testing.T) {
	same := func(s window.Shape, time, as int) {
		t.Helper()
		if s.First(time) != s.First(as) || s.Many(time) != s.Many(as) || s.Needed(time) != s.Needed(as) {
			t.Errorf("P8.1: of %v, %d isn't as %d", s, time, as)
		}
	}
	for _, s := range manyShapes() {
		for _, d := range []int{1, 2, s.Slide, s.Width, 1 << 61, 1 << 62} {
			same(s, farthest+d, farthest)
			same(s, -farthest-d, -farthest)
		}
		same(s, math.MaxInt, farthest)
		same(s, math.MinInt, -farthest)
		if s.First(math.MinInt) != 0 || s.Many(math.MinInt) != 0 || s.Needed(math.MinInt) != s.Begin {
			t.Errorf("P8.1: of %v, the least time", s)
		}
	}
	// Windows that close behind 2^61 are windows, too, though Window doesn't answer them.
	s := shape(10, 5, 0)
	if s.Many(farthest) != 2 || s.First(farthest) != 461168601842738789 || s.Needed(math.MaxInt) != 2305843009213693945 {
		t.Errorf("P8.1: at 2^61: %d, %d, %d", s.Many(farthest), s.First(farthest), s.Needed(math.MaxInt))
	}
}

// TestReportsOfAnyShape: what Reports gives around a time is what closes there, window by window.
func TestReportsOfAnyShape(t *testing.T) {
	for _, s := range manyShapes() {
		for _, time := range manyTimes() {
			from := max(-farthest, min(time, farthest)) - 3*s.Slide
			to := from + 5*s.Slide
			var want []int
			for i := max(0, s.First(from)-2); closing(s, i).Cmp(told(to)) <= 0; i++ {
				if closing(s, i).Cmp(told(from)) > 0 {
					want = append(want, i)
				}
			}
			if got := reports(t, s, from, to); !slices.Equal(got, want) {
				t.Fatalf("P8.1: Reports(%d, %d) of %v: %v, want %v", from, to, s, got, want)
			}
			for i := range s.Reports(from, to) {
				if w, e := s.Window(i); e != api.OK || w.Close <= from || w.Close > to {
					t.Fatalf("P8.1: Reports(%d, %d) of %v gives %d: %v, %d", from, to, s, i, w, e)
				}
			}
		}
	}
}

// TestWindowsOfTimes: P8.2, of all windows around a time, and of all marks that aren't behind it.
func TestWindowsOfTimes(t *testing.T) {
	for _, s := range smallShapes() {
		for time := early; time <= late; time++ {
			l, e := s.At(time)
			if e != api.OK {
				t.Fatalf("P8.2: At(%d) of %v: %d", time, s, e)
			}
			for i := range windows(s, late) {
				w, _ := s.Window(i)
				if in := slices.Contains(l, i); w.Has(time) != in || in && w.Close <= time {
					t.Fatalf("P8.2: %d in window %d of %v: %v, %v", time, i, s, w, in)
				}
			}
			for mark := early - 5; mark <= time; mark++ {
				if len(l) > 0 && time < s.Needed(mark) {
					t.Fatalf("P8.2: of %v, %d is ahead of Needed(%d)", s, time, mark)
				}
			}
		}
	}
}

// TestNeededIsLeast: what Needed tells is in a window that closes behind the mark, and nothing ahead of it is.
func TestNeededIsLeast(t *testing.T) {
	for _, s := range smallShapes() {
		for mark := early; mark <= late; mark++ {
			needed := s.Needed(mark)
			if l, _ := s.At(needed); !slices.Contains(l, s.First(mark)) {
				t.Fatalf("P8.2: of %v, nothing needs Needed(%d), %d", s, mark, needed)
			}
			for time := early - 5; time < needed; time++ {
				for i, w := range windows(s, time) {
					if w.Open <= time && time < w.Close && w.Close > mark {
						t.Fatalf("P8.2: of %v, window %d needs %d, ahead of Needed(%d)", s, i, time, mark)
					}
				}
			}
		}
	}
}

// TestWindowsOfFarTimes: P8.2 at the edges of shapes and of instants.
func TestWindowsOfFarTimes(t *testing.T) {
	times := manyTimes()
	for _, s := range manyShapes() {
		for _, time := range times {
			l, e := s.At(time)
			if e != api.OK || len(l) == 0 {
				continue
			}
			for _, i := range l {
				if w, e := s.Window(i); e != api.OK || !w.Has(time) || w.Close <= time {
					t.Fatalf("P8.2: of %v, %d in window %d: %v, %d", s, time, i, w, e)
				}
			}
			for _, i := range []int{l[0] - 1, l[len(l)-1] + 1} {
				if w, e := s.Window(i); e == api.OK && w.Has(time) {
					t.Fatalf("P8.2: of %v, At(%d) doesn't tell %d", s, time, i)
				}
			}
			for _, mark := range times {
				if mark <= time && time < s.Needed(mark) {
					t.Fatalf("P8.2: of %v, %d is ahead of Needed(%d)", s, time, mark)
				}
			}
		}
	}
}

// TestAnswersAreNew: a list that was answered is the caller's, spare room included.
func TestAnswersAreNew(t *testing.T) {
	s := shape(10, 2, 0)
	want := []int{6, 7, 8, 9, 10}
	for range 3 {
		l, _ := s.At(20)
		other, _ := s.At(20)
		for i := range l[:cap(l)] {
			l[:cap(l)][i] = -1
		}
		if !slices.Equal(other, want) {
			t.Fatalf("P8.1: At(20): %v, want %v", other, want)
		}
	}
}

// TestBadShapesEnd: of a shape that may not be nothing is promised, but that each call ends, and none panics.
func TestBadShapesEnd(t *testing.T) {
	odd := []int{math.MinInt, -widest - 1, -7, -1, 0, 1, widest + 1, 1 << 62, math.MaxInt}
	for _, width := range odd {
		for _, slide := range odd {
			for _, begin := range odd {
				s := shape(width, slide, begin)
				if s.Good() {
					continue
				}
				for _, time := range odd {
					s.Window(time)
					s.At(time)
					s.Many(time)
					s.First(time)
					s.Needed(time)
					s.Tumbling()
					for _, to := range odd {
						reports(t, s, time, to)
					}
				}
			}
		}
	}
}
