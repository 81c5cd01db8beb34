package reach_test

import (
	"maps"
	"math"
	"slices"
	"testing"

	"beck/api"
	"beck/dict"
	"beck/nfa"
	"beck/reach"
)

const least = -1 << 61

var plus = of(nfa.Plus, step(0))

// badPaths are ones that may not be, and what Check answers.
func badPaths() map[api.Errno]nfa.Path {
	deep := step(0)
	for range 40 {
		deep = of(nfa.Opt, deep)
	}
	return map[api.Errno]nfa.Path{
		api.ErrForm: step(-1),
		api.ErrMany: of(nfa.Alt, make([]nfa.Path, 200)...),
		api.ErrDeep: deep,
	}
}

func TestForever(t *testing.T) {
	if reach.Forever != 1<<62 {
		t.Errorf("P11.1: Forever: %d", reach.Forever)
	}
}

func TestNew(t *testing.T) {
	for _, room := range []int{1, 2, maxRoom - 1, maxRoom} {
		b := newBoth(t, of(nfa.Star, step(0)), room)
		b.same()
		if b.f.Size() != 0 {
			t.Errorf("P11.1: Size without edges: %d", b.f.Size())
		}
	}
	for _, room := range []int{math.MinInt, -1, 0, maxRoom + 1, math.MaxInt} {
		if f, e := reach.New(plus, room); f != nil || e != api.ErrRange {
			t.Errorf("P11.1: New of room %d: %v, %d", room, f, e)
		}
	}
	for code, p := range badPaths() {
		for _, room := range []int{1, 0, maxRoom + 1} { // the path's fault is told ahead of the room's
			if f, e := reach.New(p, room); f != nil || e != code {
				t.Errorf("P11.1: New of a path that may not be, room %d: %v, %d, want %d", room, f, e, code)
			}
		}
	}
}

func TestExample(t *testing.T) {
	f := newForest(t, of(nfa.Star, step(0)), 9)
	f.Add(dict.Key{4, 1, 6}, 3)
	if s := told(f.Pairs()); s != "4-4 6-6" {
		t.Errorf("P11.1: of a Star: %s", s)
	}
}

// TestKinds: each kind of path, of one graph.
func TestKinds(t *testing.T) {
	l := edges{{1, 0, 2}: 5, {2, 0, 3}: 8, {3, 0, 1}: 4, {1, 1, 3}: 7, {3, 1, 3}: 2, {4, 2, 1}: 9}
	for i, c := range []struct {
		p    nfa.Path
		want string
	}{
		{step(0), "1-2:5 2-3:8 3-1:4"},
		{back(0), "1-3:4 2-1:5 3-2:8"},
		{step(1), "1-3:7 3-3:2"},
		{back(1), "3-1:7 3-3:2"},
		{step(3), ""},
		{back(7), ""},
		{of(nfa.Seq, step(0)), "1-2:5 2-3:8 3-1:4"},
		{of(nfa.Seq, step(0), step(0)), "1-3:5 2-1:4 3-2:4"},
		{of(nfa.Seq, step(0), back(0)), "1-1:5 2-2:8 3-3:4"},
		{of(nfa.Seq, back(1), step(1)), "3-3:7"},
		{of(nfa.Seq, step(0), step(1)), "2-3:2 3-3:4"},
		{of(nfa.Seq, step(1), step(0)), "1-1:4 3-1:2"},
		{of(nfa.Seq, step(0), step(3)), ""},
		{of(nfa.Alt, step(0), back(1)), "1-2:5 2-3:8 3-1:7 3-3:2"},
		{of(nfa.Alt, step(3), step(1)), "1-3:7 3-3:2"},
		{of(nfa.Opt, step(0)), "1-1 1-2:5 2-2 2-3:8 3-1:4 3-3 4-4"},
		{of(nfa.Opt, step(3)), "1-1 2-2 3-3 4-4"},
		{of(nfa.Plus, step(0)), "1-1:4 1-2:5 1-3:5 2-1:4 2-2:4 2-3:8 3-1:4 3-2:4 3-3:4"},
		{of(nfa.Star, step(0)), "1-1 1-2:5 1-3:5 2-1:4 2-2 2-3:8 3-1:4 3-2:4 3-3 4-4"},
		{of(nfa.Plus, step(1)), "1-3:7 3-3:2"},
		{of(nfa.Star, step(1)), "1-1 1-3:7 2-2 3-3 4-4"},
		{of(nfa.Plus, of(nfa.Alt, step(0), step(1))), "1-1:4 1-2:5 1-3:7 2-1:4 2-2:4 2-3:8 3-1:4 3-2:4 3-3:4"},
		{of(nfa.Plus, of(nfa.Opt, step(2))), "1-1 2-2 3-3 4-1:9 4-4"},
		{of(nfa.Seq, step(2), of(nfa.Star, step(0))), "4-1:9 4-2:5 4-3:5"},
		{of(nfa.Star, of(nfa.Seq, step(0), step(0))), "1-1 1-2:4 1-3:5 2-1:4 2-2 2-3:4 3-1:4 3-2:4 3-3 4-4"},
	} {
		got, e := reach.Of(c.p, l)
		if e != api.OK || told(got) != c.want {
			t.Errorf("P11.1: Of at %d: %s, %d, want %s", i, told(got), e, c.want)
		}
		f := newForest(t, c.p, len(l))
		for k, until := range l {
			if e := f.Add(k, until); e != api.OK {
				t.Errorf("P11.1: Add(%v) at %d: %d", k, i, e)
			}
		}
		holds(t, "P11.1", f, c.p, l)
	}
}

// TestLongest: of several walks the one that lasts longest tells how long the pair lasts, be it the longer way, or the one that goes an edge more often.
func TestLongest(t *testing.T) {
	for i, c := range []struct {
		p    nfa.Path
		l    edges
		want string
	}{
		{plus, edges{{1, 0, 2}: 1, {1, 0, 3}: 9, {3, 0, 4}: 8, {4, 0, 2}: 7}, "1-2:7 1-3:9 1-4:8 3-2:7 3-4:8 4-2:7"},
		{plus, edges{{1, 0, 2}: reach.Forever, {2, 0, 3}: reach.Forever}, "1-2 1-3 2-3"},
		{plus, edges{{1, 0, 2}: least, {2, 0, 3}: reach.Forever, {1, 0, 3}: least}, "1-2:-2305843009213693952 1-3:-2305843009213693952 2-3"},
		{of(nfa.Seq, step(0), step(0), step(0)), edges{{1, 0, 1}: 5, {1, 0, 2}: 3}, "1-1:5 1-2:3"},
		{of(nfa.Seq, step(0), step(0), step(0)), edges{{1, 0, 2}: 5, {2, 0, 1}: 3}, "1-2:3 2-1:3"},
		{of(nfa.Alt, of(nfa.Seq, step(0), step(0)), step(1)), edges{{1, 0, 2}: 6, {2, 0, 3}: 5, {1, 1, 3}: 4}, "1-3:5"},
		{of(nfa.Alt, of(nfa.Seq, step(0), step(0)), step(1)), edges{{1, 0, 2}: 6, {2, 0, 3}: 3, {1, 1, 3}: 4}, "1-3:4"},
		{of(nfa.Alt, step(0), step(1), back(0)), edges{{1, 0, 2}: -6, {1, 1, 2}: -5, {2, 0, 1}: -4}, "1-2:-4 2-1:-4"},
		{of(nfa.Star, back(0)), edges{{1, 0, 1}: 5}, "1-1"},
		{of(nfa.Plus, back(0)), edges{{1, 0, 1}: 5}, "1-1:5"},
	} {
		if got, e := reach.Of(c.p, c.l); e != api.OK || told(got) != c.want {
			t.Errorf("P11.1: Of at %d: %s, %d, want %s", i, told(got), e, c.want)
		}
	}
}

// TestNodes: subjects and objects of any edge are nodes while it is there, be its predicate in the path or not; predicates are none.
func TestNodes(t *testing.T) {
	for _, p := range []nfa.Path{of(nfa.Star, step(0)), of(nfa.Opt, back(5)), of(nfa.Plus, of(nfa.Star, step(0)))} {
		b := newBoth(t, p, 9)
		b.add(dict.Key{1, 7, 2}, 3)
		b.add(dict.Key{2, 8, 2}, 5)
		b.add(dict.Key{math.MaxInt, math.MaxInt, 4}, 4)
		b.same()
		if s := told(b.f.Pairs()); s != "1-1 2-2 4-4 9223372036854775807-9223372036854775807" {
			t.Errorf("P11.1: nodes: %s", s)
		}
		for before, want := range map[int]string{4: "2-2 4-4 9223372036854775807-9223372036854775807", 5: "2-2", 6: ""} {
			x := newBoth(t, p, 9)
			for k, until := range b.m.edges {
				x.add(k, until)
			}
			x.expire(before)
			x.same()
			if s := told(x.f.Pairs()); s != want {
				t.Errorf("P11.1: nodes behind Expire(%d): %s, want %s", before, s, want)
			}
		}
	}
	f := newForest(t, plus, 9)
	f.Add(dict.Key{1, 7, 2}, 3)
	if len(f.Pairs()) != 0 || f.Has(1, 1) || len(f.From(1)) != 0 || f.Len() != 1 {
		t.Error("P11.1: a path that takes no word without symbols")
	}
}

// TestAddRange: what may not be isn't there, with room and without, nor changes what is.
func TestAddRange(t *testing.T) {
	wrong := []dict.Key{{-1, -1, -1}, {math.MinInt, math.MinInt, math.MinInt}}
	for part := range 3 {
		for _, n := range []int{-1, -7, math.MinInt} {
			k := dict.Key{1, 0, 2}
			k[part] = n
			wrong = append(wrong, k)
		}
	}
	b := newBoth(t, of(nfa.Star, step(0)), 3)
	for _, k := range []dict.Key{{1, 0, 2}, {2, 0, 3}, {0, 0, 0}} {
		b.add(k, 5)
		for _, x := range wrong {
			if e := b.add(x, 5); e != api.ErrRange {
				t.Errorf("P11.1: Add(%v): %d", x, e)
			}
		}
		for _, until := range []int{math.MinInt, least - 1, reach.Forever + 1, math.MaxInt} {
			for _, x := range []dict.Key{k, {9, 0, 9}} {
				if e := b.add(x, until); e != api.ErrRange {
					t.Errorf("P11.1: Add(%v, %d): %d", x, until, e)
				}
			}
		}
		b.same()
	}
	for _, until := range []int{least, least + 1, -1, 0, 1 << 60, 1<<61 + 1, reach.Forever - 1, reach.Forever} {
		f := newForest(t, step(0), 1)
		if e := f.Add(dict.Key{1, 0, 2}, until); e != api.OK || !maps.Equal(f.Pairs(), relation{{From: 1, To: 2}: until}) {
			t.Errorf("P11.1: Add until %d: %d, %s", until, e, told(f.Pairs()))
		}
	}
}

func TestAddFull(t *testing.T) {
	b := newBoth(t, of(nfa.Star, step(0)), 2)
	b.add(dict.Key{1, 0, 2}, 5)
	b.add(dict.Key{1, 7, 2}, 6) // has room as any other
	for range 2 {
		if b.add(dict.Key{2, 0, 1}, 9) != api.ErrFull || b.add(dict.Key{2, 0, 1}, least) != api.ErrFull {
			t.Error("P11.1: Add without room")
		}
		b.same()
	}
	if b.add(dict.Key{1, 0, 2}, 8) != api.OK || b.add(dict.Key{1, 7, 2}, 1) != api.OK {
		t.Error("P11.1: Add without room of what is there")
	}
	b.same()
	b.expire(7)
	if b.add(dict.Key{2, 0, 1}, 6) != api.OK || b.add(dict.Key{2, 0, 1}, 9) != api.OK || b.add(dict.Key{3, 0, 1}, 9) != api.ErrFull {
		t.Error("P11.1: Add of what has room again")
	}
	if b.add(dict.Key{3, 0, 1}, 2) != api.ErrFull { // there is no room, be it there then or not
		t.Error("P11.1: Add without room of what lasts until below the horizon")
	}
	b.same()
}

// TestAgain: of what is added again the later time holds.
func TestAgain(t *testing.T) {
	k := dict.Key{1, 0, 2}
	for _, l := range [][]int{{5, 9}, {9, 5}, {9, 9, 9}, {-9, 3, 9, 4}, {9, least}, {least, 9}, {least + 8, 9, 8}} {
		b := newBoth(t, plus, 1)
		for _, until := range l {
			b.add(k, until)
			b.same()
		}
		if s := told(b.f.Pairs()); s != "1-2:9" || b.expire(9) != 0 || b.expire(10) != 1 {
			t.Errorf("P11.1: added until %v: %s", l, s)
		}
		b.same()
	}
}

func TestExpire(t *testing.T) {
	l := edges{{1, 0, 2}: 3, {2, 0, 3}: 3, {3, 0, 4}: 5, {4, 0, 1}: least, {1, 5, 9}: 4, {2, 0, 2}: reach.Forever}
	for before, want := range map[int]int{
		math.MinInt: 0, least - 1: 0, least: 0, least + 1: 1, 3: 1, 4: 3, 5: 4, 6: 5, reach.Forever: 5, reach.Forever + 1: 6, math.MaxInt: 6,
	} {
		for _, p := range []nfa.Path{plus, of(nfa.Star, of(nfa.Alt, step(0), back(0)))} {
			b := newBoth(t, p, 6)
			for k, until := range l {
				b.add(k, until)
			}
			if n := b.expire(before); n != want {
				t.Errorf("P11.1: Expire(%d): %d, want %d", before, n, want)
			}
			b.same()
			if b.expire(before) != 0 || b.expire(math.MinInt) != 0 {
				t.Errorf("P11.1: Expire(%d) again", before)
			}
			for k, until := range l { // the horizon stays, so that what went isn't there again
				b.add(k, until)
			}
			b.same()
			if b.f.Len() != 6-want {
				t.Errorf("P11.1: behind Expire(%d): %d", before, b.f.Len())
			}
		}
	}
}

// TestHorizon: what is added lasts until the horizon at least, or it isn't there.
func TestHorizon(t *testing.T) {
	b := newBoth(t, of(nfa.Star, step(0)), 3)
	b.expire(5)
	for k, until := range []int{4, 5, 6, least} {
		b.add(dict.Key{k, 0, 9}, until)
		b.same()
	}
	if s := told(b.f.Pairs()); s != "1-1 1-9:5 2-2 2-9:6 9-9" {
		t.Errorf("P11.1: behind the horizon: %s", s)
	}
	b.expire(3) // it doesn't go back
	b.add(dict.Key{0, 0, 9}, 4)
	b.same()
	b.add(dict.Key{1, 0, 9}, 4) // it is there already, until later
	b.same()
	if b.expire(math.MaxInt) != 2 || b.add(dict.Key{1, 0, 2}, reach.Forever) != api.OK {
		t.Error("P11.1: a horizon behind all times")
	}
	b.same()
	if b.f.Len() != 0 || b.f.Size() != 0 {
		t.Errorf("P11.1: all are gone: %d, %d", b.f.Len(), b.f.Size())
	}
}

func TestFrom(t *testing.T) {
	f := newForest(t, plus, 20)
	for _, y := range []int{8, 3, 11, 0, 100, 1} {
		f.Add(dict.Key{5, 0, y}, y)
	}
	f.Add(dict.Key{3, 0, 5}, 1)
	f.Add(dict.Key{3, 0, 8}, 1)
	for x, want := range map[int][]int{5: {0, 1, 3, 5, 8, 11, 100}, 3: {0, 1, 3, 5, 8, 11, 100}, 8: nil, 6: nil, -1: nil, math.MinInt: nil, math.MaxInt: nil} {
		if l := f.From(x); !slices.Equal(l, want) {
			t.Errorf("P11.1: From(%d): %v, want %v", x, l, want)
		}
	}
	if !f.Has(5, 11) || !f.Has(3, 3) || f.Has(8, 5) || f.Has(11, 5) || f.Has(6, 6) || f.Has(-1, -1) || f.Has(5, 6) || f.Has(6, 5) {
		t.Error("P11.1: Has")
	}
}

// TestSize: it keeps to its bound, of many predicates between few nodes, in the path and not; and what is gone isn't kept.
func TestSize(t *testing.T) {
	var all []nfa.Path
	for i := range 99 {
		all = append(all, step(i), back(i))
	}
	for _, p := range []nfa.Path{step(0), of(nfa.Star, step(0)), of(nfa.Alt, back(3), step(3)), of(nfa.Star, of(nfa.Alt, all...))} {
		b := newBoth(t, p, maxRoom)
		for i := range 100 {
			for _, k := range []dict.Key{{1, i, 1}, {1, i, 2}, {2, i, 2}, {2, i, 1}} {
				b.add(k, i)
				nodes := len(nodesOf(b.m.edges))
				if n, most := b.f.Size(), b.f.States()*nodes*nodes; n > most {
					t.Fatalf("P11.1: Size of %d nodes: %d, at most %d", nodes, n, most)
				}
			}
		}
		b.same()
		was := b.f.Size()
		for i := range 100 {
			b.expire(i + 1)
			if n := b.f.Size(); n > was {
				t.Errorf("P11.1: Size behind Expire(%d): %d, before it %d", i+1, n, was)
			}
			was = b.f.Size()
		}
		if was != 0 {
			t.Errorf("P11.1: Size without edges: %d", was)
		}
	}
}

// TestPromoted: a forest's machine takes its path's words.
func TestPromoted(t *testing.T) {
	f := newForest(t, of(nfa.Seq, step(3), of(nfa.Star, back(1))), 1)
	if !f.Takes([]nfa.Symbol{{N: 3}, {N: 1, Back: true}}) || f.Takes([]nfa.Symbol{{N: 1, Back: true}}) {
		t.Error("P11.1: Takes")
	}
	m, _ := nfa.Compile(step(3))
	if f.States() <= m.States() || !f.Final(f.Next(f.Begin(), nfa.Symbol{N: 3})) {
		t.Error("P11.1: States, Begin, Next, Final")
	}
}

// TestApart: what is handed in may be changed, and so may answers; one forest's edges are no other's.
func TestApart(t *testing.T) {
	parts := []nfa.Path{step(0), of(nfa.Star, step(1))}
	p := of(nfa.Seq, parts...)
	f, other := newForest(t, p, 9), newForest(t, p, 9)
	parts[0], parts[1].Parts[0] = step(7), step(8)
	l := edges{{1, 0, 2}: 5, {2, 1, 3}: 4}
	for k, until := range l {
		f.Add(k, until)
	}
	good := of(nfa.Seq, step(0), of(nfa.Star, step(1)))
	for range 2 {
		holds(t, "P11.1", f, good, l)
		r := f.Pairs()
		delete(r, reach.Pair{From: 1, To: 2})
		r[reach.Pair{From: 9, To: 9}] = 9
		row := f.From(1)
		row[0], row[1] = 99, 98
		row = append(row[:1], 97)
		begin := f.Begin()
		begin[0] = 1
	}
	holds(t, "P11.1", other, good, nil)
	kept := maps.Clone(l)
	r, e := reach.Of(good, l)
	if e != api.OK || !maps.Equal(l, kept) {
		t.Errorf("P11.1: Of changes what is handed in: %v, %d", l, e)
	}
	l[dict.Key{2, 1, 9}] = 3
	if again, _ := reach.Of(good, kept); told(r) != told(again) {
		t.Errorf("P11.1: Of again: %s, %s", told(r), told(again))
	}
}

func TestOf(t *testing.T) {
	for code, p := range badPaths() { // the path's fault is told first
		for _, l := range []edges{nil, {{1, 0, 2}: 5}, {{-1, 0, 2}: 5}} {
			if r, e := reach.Of(p, l); len(r) != 0 || e != code {
				t.Errorf("P11.1: Of a path that may not be: %v, %d, want %d", r, e, code)
			}
		}
	}
	for _, l := range []edges{nil, {}} {
		if r, e := reach.Of(of(nfa.Star, step(0)), l); len(r) != 0 || e != api.OK {
			t.Errorf("P11.1: Of no edges: %v, %d", r, e)
		}
	}
	for i, l := range []edges{
		{{-1, 0, 2}: 5}, {{1, -1, 2}: 5}, {{1, 0, -1}: 5}, {{1, 0, 2}: least - 1}, {{1, 0, 2}: reach.Forever + 1}, {{1, 0, 2}: math.MaxInt}, {{1, 0, 2}: math.MinInt},
	} {
		l[dict.Key{3, 0, 4}] = 5
		if r, e := reach.Of(plus, l); len(r) != 0 || e != api.ErrRange {
			t.Errorf("P11.1: Of an edge that may not be, %d: %v, %d", i, r, e)
		}
	}
	if r, e := reach.Of(plus, edges{{0, 0, 0}: least, {1, 0, 2}: reach.Forever}); told(r) != "0-0:-2305843009213693952 1-2" || e != api.OK {
		t.Errorf("P11.1: Of: %s, %d", told(r), e)
	}
}

// TestOfTooMany: more than 10,000 edges are too many, but one that may not be is told ahead of that.
func TestOfTooMany(t *testing.T) {
	l := edges{}
	for i := range maxRoom {
		l[dict.Key{i, i % 3, i + 1}] = i
	}
	if r, e := reach.Of(step(1), l); e != api.OK || !maps.Equal(r, wanted(step(1), l)) {
		t.Errorf("P11.1: Of as many as may be: %d, %d", len(r), e)
	}
	for range 5 { // in whatever order the map is gone through
		for _, until := range []int{5, least} {
			l[dict.Key{0, 9, 0}] = until
			if r, e := reach.Of(step(1), l); len(r) != 0 || e != api.ErrFull {
				t.Errorf("P11.1: Of one more than may be: %d, %d", len(r), e)
			}
		}
		l[dict.Key{0, 9, 0}] = least - 1
		if r, e := reach.Of(step(1), l); len(r) != 0 || e != api.ErrRange {
			t.Errorf("P11.1: Of one more than may be, that may not be: %d, %d", len(r), e)
		}
		delete(l, dict.Key{0, 9, 0})
		l[dict.Key{0, -9, 0}] = 5
		if r, e := reach.Of(step(-1), l); len(r) != 0 || e != api.ErrForm {
			t.Errorf("P11.1: Of a path that may not be, and one more than may be: %d, %d", len(r), e)
		}
		delete(l, dict.Key{0, -9, 0})
	}
}
