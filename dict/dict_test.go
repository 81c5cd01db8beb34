package dict_test

import (
	"math"
	"math/rand"
	"slices"
	"strconv"
	"strings"
	"testing"

	"beck/api"
	"beck/dict"
	"beck/nt"
	"beck/term"
)

func iri(text string) term.IRI { return term.IRI{Text: text} }

func blank(label string) term.Blank { return term.Blank{Label: label} }

func literal(text, kind, lang string) term.Literal {
	return term.Literal{Text: text, Type: kind, Lang: lang}
}

// What else may be handed in as a Term: types that aren't a term's, whatever they say of themselves.
type (
	yes     struct{}
	fails   struct{}
	list    []int
	table   map[string]int
	holds   struct{ term.IRI }
	carries struct{ term.Term }
	renamed term.Literal
)

func (yes) Good() bool     { return true }
func (fails) Good() bool   { panic("asked") }
func (list) Good() bool    { return true }
func (table) Good() bool   { return true }
func (renamed) Good() bool { return true }

// strangers are no terms; a list and a map can't even be held against their like.
func strangers() []term.Term {
	var noIRI *term.IRI
	one := term.Int(1)
	return []term.Term{
		nil, yes{}, fails{}, list{1}, list(nil), table{"a": 1}, holds{iri("u:a")}, carries{iri("u:a")}, carries{list{1}},
		renamed(one), noIRI, &term.IRI{Text: "u:a"}, &one,
	}
}

// wrong are terms by their types, but not good.
func wrong() []term.Term {
	return []term.Term{
		iri(""), iri("a"), iri(":a"), iri("u: a"), iri("u:\xff"), iri("u:" + strings.Repeat("a", api.MaxText-1)),
		blank(""), blank("_a"), blank("\xff"), blank(strings.Repeat("a", 101)),
		literal("a", "", ""), literal("a", "t", ""), literal("a", term.XLang, ""), literal("a", term.XString, "en"),
		literal("a", term.XLang, "e1"), literal("\xff", term.XString, ""), literal(strings.Repeat("a", api.MaxText+1), term.XString, ""),
	}
}

// alike are good terms, none the same as another, though some have a text, a type, or a value in common.
func alike() []term.Term {
	long := strings.Repeat("a", api.MaxText-2)
	return []term.Term{
		term.Plain("u:a"), iri("u:a"), blank("u"), blank("U"), iri("U:a"), iri("u:a/"), iri("u:"), blank("0"), blank("00"),
		literal("u:a", "u:a", ""), literal("u:a", term.XLang, "en"), literal("u:a", term.XLang, "EN"), literal("u:a", term.XLang, "en-a"),
		term.Int(0), literal("00", term.XInt, ""), literal("0", term.XBool, ""), term.Plain("0"), term.Bool(false), term.Plain("false"),
		term.Plain(""), literal("", "u:a", ""), term.Plain("\x00"), term.Plain("é"), term.Plain("e\u0301"), term.Plain(`"u:a"@en`),
		iri("u:" + long), iri("v:" + long), term.Plain(long + "ab"), term.Plain(long + "ac"),
	}
}

// newDict answers a dictionary with some terms.
func newDict(t *testing.T, room int, l ...term.Term) *dict.Dict {
	t.Helper()
	d, e := dict.New(room)
	if e != api.OK || d == nil || d.Len() != 0 {
		t.Fatalf("P5.1: New(%d): %d", room, e)
	}
	for _, x := range l {
		if _, e := d.Put(x); e != api.OK {
			t.Fatalf("P5.1: Put(%.60q): %d", x, e)
		}
	}
	return d
}

// holdsJust checks by each way of asking that a dictionary has just these terms, with the numbers 0, 1, 2.
func holdsJust(t *testing.T, d *dict.Dict, l []term.Term) {
	t.Helper()
	if d.Len() != len(l) {
		t.Fatalf("P5.1: Len: %d, want %d", d.Len(), len(l))
	}
	for i, x := range l {
		if n, e := d.Find(x); n != i || e != api.OK {
			t.Fatalf("P5.1: Find(%.60q): %d, %d, want %d", x, n, e, i)
		}
		if got, e := d.Term(i); got != x || e != api.OK {
			t.Fatalf("P5.1: Term(%d): %.60q, %d, want %.60q", i, got, e, x)
		}
	}
	for _, n := range outside(len(l)) {
		if got, e := d.Term(n); got != nil || e != api.ErrNone {
			t.Fatalf("P5.1: Term(%d) of %d: %.60q, %d", n, len(l), got, e)
		}
	}
}

// outside are numbers that none of so many terms has.
func outside(many int) []int {
	return []int{-1, -2, math.MinInt, many, many + 1, api.MaxTerms, math.MaxInt}
}

func TestNew(t *testing.T) {
	for _, room := range []int{1, 2, api.MaxTerms - 1, api.MaxTerms} {
		holdsJust(t, newDict(t, room), nil)
	}
	for _, room := range []int{0, -1, math.MinInt, api.MaxTerms + 1, math.MaxInt} {
		if d, e := dict.New(room); d != nil || e != api.ErrRange {
			t.Errorf("P5.1: New(%d): %v, %d", room, d, e)
		}
	}
}

func TestPut(t *testing.T) {
	l := alike()
	d := newDict(t, len(l))
	for i, x := range l {
		if n, e := d.Find(x); n != 0 || e != api.ErrNone {
			t.Errorf("P5.1: Find(%.60q), which wasn't put: %d, %d", x, n, e)
		}
		if n, e := d.Put(x); n != i || e != api.OK {
			t.Errorf("P5.1: Put(%.60q): %d, %d, want %d", x, n, e, i)
		}
		if n, e := d.Put(x); n != i || e != api.OK {
			t.Errorf("P5.1: Put(%.60q) again: %d, %d, want %d", x, n, e, i)
		}
	}
	holdsJust(t, d, l)
	if n, e := d.Put(iri("u:none")); n != 0 || e != api.ErrFull {
		t.Errorf("P5.1: Put without room: %d, %d", n, e)
	}
	if n, e := d.Put(l[3]); n != 3 || e != api.OK {
		t.Errorf("P5.1: Put without room of what is there: %d, %d", n, e)
	}
	holdsJust(t, d, l)
}

// TestOfNoTerms: what is no good term isn't put, nor found, with room and without.
func TestOfNoTerms(t *testing.T) {
	l := []term.Term{iri("u:a"), term.Int(1)}
	for _, room := range []int{len(l), len(l) + 1} {
		d := newDict(t, room, l...)
		for i, x := range append(strangers(), wrong()...) {
			if n, e := d.Put(x); n != 0 || e != api.ErrTerm {
				t.Errorf("P5.1: Put of what is no term, %d: %d, %d", i, n, e)
			}
			if n, e := d.Find(x); n != 0 || e != api.ErrNone {
				t.Errorf("P5.1: Find of what is no term, %d: %d, %d", i, n, e)
			}
		}
		holdsJust(t, d, l)
	}
}

// TestGreatestRoom: MaxTerms terms have room, one more hasn't.
func TestGreatestRoom(t *testing.T) {
	d := newDict(t, api.MaxTerms)
	var l []term.Term
	for i := range api.MaxTerms {
		l = append(l, iri("u:"+strconv.Itoa(i)))
		if n, e := d.Put(l[i]); n != i || e != api.OK {
			t.Fatalf("P5.1: Put of term %d: %d, %d", i, n, e)
		}
	}
	if n, e := d.Put(iri("u:a")); n != 0 || e != api.ErrFull {
		t.Errorf("P5.1: Put of one more than MaxTerms: %d, %d", n, e)
	}
	holdsJust(t, d, l)
	if many := d.Cut(1); many != api.MaxTerms-1 {
		t.Errorf("P5.1: Cut(1): %d", many)
	}
	holdsJust(t, d, l[:1])
}

// TestRoomOfOne: the least room.
func TestRoomOfOne(t *testing.T) {
	a, b := iri("u:a"), iri("u:b")
	d := newDict(t, 1, a)
	if n, e := d.Put(b); n != 0 || e != api.ErrFull {
		t.Errorf("P5.1: Put without room: %d, %d", n, e)
	}
	if k, e := d.Key(nt.Triple{S: a, P: a, O: a}); k != (dict.Key{}) || e != api.OK {
		t.Errorf("P5.1: Key of one term: %v, %d", k, e)
	}
	holdsJust(t, d, []term.Term{a})
	d = newDict(t, 1)
	if k, e := d.Key(nt.Triple{S: b, P: b, O: b}); k != (dict.Key{}) || e != api.OK {
		t.Errorf("P5.1: Key of one term that is put: %v, %d", k, e)
	}
	holdsJust(t, d, []term.Term{b})
}

func TestKey(t *testing.T) {
	a, b, p, c := iri("u:a"), blank("b"), iri("u:p"), term.Plain("c")
	for _, x := range []struct {
		triple nt.Triple
		want   dict.Key
		puts   []term.Term
	}{
		{nt.Triple{S: b, P: p, O: c}, dict.Key{2, 3, 4}, []term.Term{b, p, c}},
		{nt.Triple{S: b, P: p, O: b}, dict.Key{2, 3, 2}, []term.Term{b, p}},
		{nt.Triple{S: p, P: p, O: c}, dict.Key{2, 2, 3}, []term.Term{p, c}},
		{nt.Triple{S: b, P: p, O: p}, dict.Key{2, 3, 3}, []term.Term{b, p}},
		{nt.Triple{S: p, P: p, O: p}, dict.Key{2, 2, 2}, []term.Term{p}},
		{nt.Triple{S: a, P: p, O: c}, dict.Key{0, 2, 3}, []term.Term{p, c}},
		{nt.Triple{S: p, P: a, O: c}, dict.Key{2, 0, 3}, []term.Term{p, c}},
		{nt.Triple{S: b, P: p, O: a}, dict.Key{2, 3, 0}, []term.Term{b, p}},
		{nt.Triple{S: p, P: a, O: p}, dict.Key{2, 0, 2}, []term.Term{p}},
		{nt.Triple{S: a, P: a, O: term.Int(1)}, dict.Key{0, 0, 1}, nil},
		{nt.Triple{S: a, P: a, O: a}, dict.Key{0, 0, 0}, nil},
	} {
		before := []term.Term{a, term.Int(1)}
		behind := append(slices.Clone(before), x.puts...)
		for room := len(before); room < 8; room++ { // from none that is left on
			d := newDict(t, room, before...)
			k, e := d.Key(x.triple)
			if room < len(behind) {
				if k != (dict.Key{}) || e != api.ErrFull {
					t.Errorf("P5.1: Key(%s) of room %d: %v, %d", x.triple.Text(), room, k, e)
				}
				holdsJust(t, d, before)
				goesOn(t, d, room)
				continue
			}
			if k != x.want || e != api.OK {
				t.Errorf("P5.1: Key(%s) of room %d: %v, %d, want %v", x.triple.Text(), room, k, e, x.want)
			}
			holdsJust(t, d, behind)
			if back, e := d.Triple(k); back != x.triple || e != api.OK {
				t.Errorf("P5.1: Triple(%v): %q, %d", k, back, e)
			}
		}
	}
}

// goesOn checks that the room that a dictionary has left is there for others, and they get the next numbers.
func goesOn(t *testing.T, d *dict.Dict, room int) {
	t.Helper()
	for i := d.Len(); i < room; i++ {
		if n, e := d.Put(blank(strconv.Itoa(i))); n != i || e != api.OK {
			t.Errorf("P5.1: Put behind a Key without room: %d, %d, want %d", n, e, i)
		}
	}
	if n, e := d.Put(blank("none")); n != 0 || e != api.ErrFull {
		t.Errorf("P5.1: Put without room: %d, %d", n, e)
	}
}

// TestKeyOfNoTriple: ErrTerm, with room and without, and nothing is put.
func TestKeyOfNoTriple(t *testing.T) {
	a, b, c := iri("u:a"), blank("b"), term.Plain("c")
	l := []nt.Triple{{}, {S: a, P: a}, {S: a, O: a}, {P: a, O: a}, {S: c, P: a, O: a}, {S: a, P: b, O: a}, {S: a, P: c, O: a}, {S: iri("u:n"), P: iri("u:m"), O: nil}}
	for _, x := range append(strangers(), wrong()...) {
		l = append(l, nt.Triple{S: x, P: a, O: a}, nt.Triple{S: iri("u:n"), P: x, O: a}, nt.Triple{S: iri("u:n"), P: a, O: x})
	}
	for _, room := range []int{3, 4, 10} {
		d := newDict(t, room, a, b, c)
		for i, x := range l {
			if k, e := d.Key(x); k != (dict.Key{}) || e != api.ErrTerm {
				t.Errorf("P5.1: Key of what is no triple, %d: %v, %d", i, k, e)
			}
		}
		holdsJust(t, d, []term.Term{a, b, c})
	}
}

func TestTriple(t *testing.T) {
	l := []term.Term{iri("u:a"), blank("b"), term.Plain("c")}
	d := newDict(t, 10, l...)
	numbers := append(outside(len(l)), 0, 1, 2)
	for _, s := range numbers {
		for _, p := range numbers {
			for _, o := range numbers {
				k := dict.Key{s, p, o}
				var want nt.Triple
				code := api.OK
				switch {
				case slices.ContainsFunc(k[:], func(n int) bool { return n < 0 || n > 2 }):
					code = api.ErrNone // be the others what they may
				case s == 2 || p != 0:
					code = api.ErrTerm
				default:
					want = nt.Triple{S: l[s], P: l[p], O: l[o]}
				}
				if got, e := d.Triple(k); got != want || e != code {
					t.Errorf("P5.1: Triple(%v): %q, %d, want %q, %d", k, got, e, want, code)
				}
			}
		}
	}
	holdsJust(t, d, l)
	if got, e := newDict(t, 1).Triple(dict.Key{}); got != (nt.Triple{}) || e != api.ErrNone {
		t.Errorf("P5.1: Triple of no terms: %q, %d", got, e)
	}
}

func TestOrder(t *testing.T) {
	rising := []term.Term{
		blank("0"), blank("a"), iri("u:a"), iri("u:b"), term.Plain(""),
		literal("a", term.XLang, "de"), literal("a", term.XLang, "en"), literal("a", "u:t", ""), term.Plain("b"),
	}
	d := newDict(t, 20)
	var numbers []int // of the terms as they rise; they are put in another order
	for i := range rising {
		if _, e := d.Put(rising[i*5%len(rising)]); e != api.OK {
			t.Fatalf("P5.1: Put: %d", e)
		}
	}
	for _, x := range rising {
		n, _ := d.Find(x)
		numbers = append(numbers, n)
	}
	numbers = append(numbers, math.MinInt, -2, -1, len(rising), len(rising)+1, api.MaxTerms, math.MaxInt)
	for i, a := range numbers {
		for k, b := range numbers {
			want := 0
			switch {
			case i < k:
				want = -1
			case i > k:
				want = 1
			}
			if got := d.Order(a, b); got != want {
				t.Errorf("P5.1: Order(%d, %d): %d, want %d", a, b, got, want)
			}
		}
	}
	empty := newDict(t, 1)
	if empty.Order(0, 1) != -1 || empty.Order(1, 0) != 1 || empty.Order(0, 0) != 0 {
		t.Error("P5.1: Order of no terms")
	}
}

func TestCut(t *testing.T) {
	l := alike()
	for _, x := range []struct{ n, stay int }{
		{math.MinInt, 0}, {-1, 0}, {0, 0}, {1, 1}, {5, 5}, {len(l) - 1, len(l) - 1}, {len(l), len(l)}, {len(l) + 1, len(l)}, {math.MaxInt, len(l)},
	} {
		d := newDict(t, len(l), l...)
		if got := d.Cut(x.n); got != len(l)-x.stay {
			t.Errorf("P5.1: Cut(%d): %d, want %d", x.n, got, len(l)-x.stay)
		}
		holdsJust(t, d, l[:x.stay])
		for _, gone := range l[x.stay:] {
			if n, e := d.Find(gone); n != 0 || e != api.ErrNone {
				t.Errorf("P5.1: Find(%.60q) behind Cut(%d): %d, %d", gone, x.n, n, e)
			}
		}
		if got := d.Cut(x.n); got != 0 {
			t.Errorf("P5.1: Cut(%d) again: %d", x.n, got)
		}
		again := slices.Clone(l[x.stay:])
		slices.Reverse(again) // those that are gone may come again, and get new numbers
		for i, y := range again {
			if n, e := d.Put(y); n != x.stay+i || e != api.OK {
				t.Errorf("P5.1: Put(%.60q) behind Cut(%d): %d, %d", y, x.n, n, e)
			}
		}
		holdsJust(t, d, append(slices.Clone(l[:x.stay]), again...))
		if n, e := d.Put(iri("u:none")); n != 0 || e != api.ErrFull {
			t.Errorf("P5.1: Put without room: %d, %d", n, e)
		}
	}
	if got := newDict(t, 1).Cut(-1); got != 0 {
		t.Errorf("P5.1: Cut of no terms: %d", got)
	}
}

// TestApart: one dictionary's terms are no other's.
func TestApart(t *testing.T) {
	a, b := iri("u:a"), iri("u:b")
	d, other := newDict(t, 3, a, b), newDict(t, 3, b)
	holdsJust(t, d, []term.Term{a, b})
	d.Cut(0)
	holdsJust(t, d, nil)
	holdsJust(t, other, []term.Term{b})
}

// model has the chapter's words in the plainest way: a list of terms, looked through from its beginning.
type model struct {
	room  int
	terms []term.Term
}

func (m *model) put(x term.Term) (int, api.Errno) {
	n := slices.IndexFunc(m.terms, func(y term.Term) bool { return term.Same(x, y) })
	switch {
	case !term.Good(x):
		return 0, api.ErrTerm
	case n >= 0:
		return n, api.OK
	case len(m.terms) == m.room:
		return 0, api.ErrFull
	}
	m.terms = append(m.terms, x)
	return len(m.terms) - 1, api.OK
}

func (m *model) key(x nt.Triple) (dict.Key, api.Errno) {
	parts := []term.Term{x.S, x.P, x.O}
	var lack []term.Term
	for _, y := range parts {
		if !slices.Contains(m.terms, y) && !slices.Contains(lack, y) {
			lack = append(lack, y)
		}
	}
	switch {
	case !x.Good():
		return dict.Key{}, api.ErrTerm
	case len(m.terms)+len(lack) > m.room:
		return dict.Key{}, api.ErrFull
	}
	m.terms = append(m.terms, lack...)
	return dict.Key{slices.Index(m.terms, x.S), slices.Index(m.terms, x.P), slices.Index(m.terms, x.O)}, api.OK
}

func (m *model) cut(n int) int {
	gone := len(m.terms)
	m.terms = m.terms[:min(max(n, 0), gone)]
	return gone - len(m.terms)
}

// TestOfMany: whatever is put and cut, in whatever order, the answers are as the chapter says.
func TestOfMany(t *testing.T) {
	random := rand.New(rand.NewSource(5))
	l := alike()[:20]
	l = append(l, iri("a"), literal("a", "", ""), nil) // no good ones
	some := func() term.Term { return l[random.Intn(len(l))] }
	for range 400 {
		m := &model{room: 1 + random.Intn(12)}
		d := newDict(t, m.room)
		for range 60 {
			switch random.Intn(8) {
			case 0:
				n := random.Intn(m.room+4) - 1
				if got, want := d.Cut(n), m.cut(n); got != want {
					t.Fatalf("P5.1: Cut(%d): %d, want %d", n, got, want)
				}
			case 1, 2, 3:
				x := some()
				n, e := d.Put(x)
				if want, code := m.put(x); n != want || e != code {
					t.Fatalf("P5.1: Put(%.60q): %d, %d, want %d, %d", x, n, e, want, code)
				}
			default:
				x := nt.Triple{S: some(), P: iri([]string{"u:a", "U:a", "u:a/", "u:"}[random.Intn(4)]), O: some()}
				k, e := d.Key(x)
				if want, code := m.key(x); k != want || e != code {
					t.Fatalf("P5.1: Key(%.200q): %v, %d, want %v, %d", x, k, e, want, code)
				}
			}
			holdsJust(t, d, m.terms)
		}
	}
}
