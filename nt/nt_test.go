package nt_test

import (
	"math/rand"
	"slices"
	"strings"
	"testing"

	"beck/api"
	"beck/nt"
	"beck/scan"
	"beck/term"
)

func iri(text string) term.IRI { return term.IRI{Text: text} }

func blank(label string) term.Blank { return term.Blank{Label: label} }

func literal(text, kind, lang string) term.Literal {
	return term.Literal{Text: text, Type: kind, Lang: lang}
}

// What else may be handed in as a Term: types that aren't a term's, whatever they say of themselves.
type (
	yes     struct{}
	fails   struct{}
	list    []int
	holds   struct{ term.IRI }
	renamed term.Literal
)

func (yes) Good() bool     { return true }
func (fails) Good() bool   { panic("asked") }
func (list) Good() bool    { return true }
func (renamed) Good() bool { return true }

// strangers are no terms.
func strangers() []term.Term {
	var noIRI *term.IRI
	one := term.Int(1)
	return []term.Term{nil, yes{}, fails{}, list{1}, holds{iri("u:a")}, renamed(one), noIRI, &term.IRI{Text: "u:a"}, &one}
}

// wrong are terms by their types, but not good.
func wrong() []term.Term {
	return []term.Term{
		iri(""), iri("a"), iri("u: a"), iri("u:\xff"), iri("u:" + strings.Repeat("a", api.MaxText-1)),
		blank(""), blank("_a"), blank("\xff"), blank(strings.Repeat("a", 101)),
		literal("a", "", ""), literal("a", "t", ""), literal("a", term.XLang, ""), literal("a", term.XString, "en"),
		literal("\xff", term.XString, ""), literal(strings.Repeat("a", api.MaxText+1), term.XString, ""),
	}
}

// written is a good term, and its text.
type written struct {
	t    term.Term
	text string
}

// good are terms of all kinds, with their texts.
func good() []written {
	long := strings.Repeat
	return []written{
		{iri("u:a"), "<u:a>"},
		{iri("u:"), "<u:>"},
		{iri("http://a.b/c?d=e&f#g'()[]*+,;=%20~_@$!."), "<http://a.b/c?d=e&f#g'()[]*+,;=%20~_@$!.>"},
		{iri("é:\u00a0\u2028\ufffd😀\U0010ffff"), "<é:\u00a0\u2028\ufffd😀\U0010ffff>"},
		{iri("u:" + long("a", api.MaxText-2)), "<u:" + long("a", api.MaxText-2) + ">"},
		{blank("a"), "_:a"},
		{blank("0"), "_:0"},
		{blank("a_-"), "_:a_-"},
		{blank(long("9", 100)), "_:" + long("9", 100)},
		{term.Plain(""), `""`},
		{term.Plain("a b"), `"a b"`},
		{term.Plain("<u:a> . # b"), `"<u:a> . # b"`},
		{term.Plain("it's é\u00a0"), "\"it's é\u00a0\""},
		{term.Plain("\t\n\r\b\f\"\\"), `"\t\n\r\b\f\"\\"`},
		{term.Plain(`a"@en`), `"a\"@en"`},
		{term.Plain("\x00\x1f\x7f\u009f"), `"\u0000\u001F\u007F\u009F"`},
		{term.Plain(long("\x00", api.MaxText)), `"` + long(`\u0000`, api.MaxText) + `"`},
		{literal("a", term.XLang, "en"), `"a"@en`},
		{literal("", term.XLang, "de-AT-1996"), `""@de-AT-1996`},
		{term.Int(-7), `"-7"^^<` + term.XInt + `>`},
		{literal("x\n", term.XInt, ""), `"x\n"^^<` + term.XInt + `>`},
		{term.Bool(true), `"true"^^<` + term.XBool + `>`},
		{literal("a", "u:t", ""), `"a"^^<u:t>`},
		{literal("a", term.XString+"s", ""), `"a"^^<` + term.XString + `s>`},
		{literal("a", term.XLang+"s", ""), `"a"^^<` + term.XLang + `s>`},
	}
}

// goodTriples are all that good puts together, a little thinned.
func goodTriples() []nt.Triple {
	var l []nt.Triple
	for i, s := range good() {
		for k, p := range good() {
			for m, o := range good() {
				if term.Kind(s.t) != 2 && term.Kind(p.t) == 1 && (i+k+m)%3 == 0 {
					l = append(l, nt.Triple{S: s.t, P: p.t, O: o.t})
				}
			}
		}
	}
	return l
}

func TestGood(t *testing.T) {
	a, b, c := iri("u:a"), blank("b"), term.Plain("c")
	for _, x := range []struct {
		t    nt.Triple
		want bool
	}{
		{nt.Triple{S: a, P: a, O: a}, true},
		{nt.Triple{S: a, P: a, O: b}, true},
		{nt.Triple{S: a, P: a, O: c}, true},
		{nt.Triple{S: b, P: a, O: b}, true},
		{nt.Triple{S: b, P: a, O: c}, true},
		{nt.Triple{S: c, P: a, O: a}, false},
		{nt.Triple{S: c, P: a, O: c}, false},
		{nt.Triple{S: a, P: b, O: a}, false},
		{nt.Triple{S: a, P: c, O: a}, false},
		{nt.Triple{S: b, P: b, O: b}, false},
		{nt.Triple{S: c, P: c, O: c}, false},
		{nt.Triple{}, false},
		{nt.Triple{S: a, P: a}, false},
		{nt.Triple{S: a, O: a}, false},
		{nt.Triple{P: a, O: a}, false},
	} {
		if got := x.t.Good(); got != x.want {
			t.Errorf("P4.1: Good of %v: %v", x.t, got)
		}
	}
	for _, x := range goodTriples() {
		if !x.Good() {
			t.Errorf("P4.1: Good of %.200s", x.Text())
		}
	}
	for k, x := range append(strangers(), wrong()...) {
		for i, y := range []nt.Triple{{S: x, P: a, O: c}, {S: a, P: x, O: c}, {S: a, P: a, O: x}, {S: x, P: x, O: x}} {
			if y.Good() {
				t.Errorf("P4.1: Good of a triple with term %d at %d", k, i)
			}
		}
	}
}

func TestText(t *testing.T) {
	for _, c := range good() {
		if got := nt.Text(c.t); got != c.text {
			t.Errorf("P4.1: Text of %.60q: %.60s, want %.60s", c.t, got, c.text)
		}
	}
}

func TestTextOfTriples(t *testing.T) {
	x := nt.Triple{S: blank("a-"), P: iri("u:b"), O: term.Plain("c\nd")}
	y := nt.Triple{S: iri("u:é"), P: iri("u:p"), O: literal(".", term.XLang, "en-1")}
	if got := x.Text(); got != `_:a- <u:b> "c\nd" .` {
		t.Errorf("P4.1: Text: %s", got)
	}
	if got := y.Text(); got != `<u:é> <u:p> "."@en-1 .` {
		t.Errorf("P4.1: Text: %s", got)
	}
	handed := []nt.Triple{x, y, x, {S: x.S, P: x.P, O: x.S}}
	kept := slices.Clone(handed)
	want := "_:a- <u:b> \"c\\nd\" .\n<u:é> <u:p> \".\"@en-1 .\n_:a- <u:b> \"c\\nd\" .\n_:a- <u:b> _:a- .\n"
	if got := nt.Print(handed[:4]); got != want || !slices.Equal(handed, kept) {
		t.Errorf("P4.1: Print: %s", got)
	}
	if got := nt.Print(nil) + nt.Print([]nt.Triple{}); got != "" {
		t.Errorf("P4.1: Print of none: %q", got)
	}
}

// TestOfAnyTerms: no call panics, whatever a triple has (P8).
func TestOfAnyTerms(t *testing.T) {
	a := iri("u:a")
	for _, x := range append(strangers(), wrong()...) {
		for _, y := range []nt.Triple{{S: x, P: a, O: a}, {S: a, P: x, O: a}, {S: a, P: a, O: x}, {S: x, P: x, O: x}} {
			nt.Text(x)
			y.Text()
			nt.Print([]nt.Triple{y})
			if nt.Order(y, y) != 0 {
				t.Errorf("P4.1: Order of %v with itself", y)
			}
		}
	}
}

func TestOrder(t *testing.T) {
	// Rising: what counts more is changed last.
	rising := []term.Term{blank("a"), blank("b"), iri("u:a"), iri("u:b"), term.Plain("a"), literal("a", "u:t", ""), term.Plain("b"), nil}
	var l []nt.Triple
	for _, s := range rising {
		for _, p := range rising {
			for _, o := range rising {
				l = append(l, nt.Triple{S: s, P: p, O: o})
			}
		}
	}
	for i, a := range l {
		for k, b := range l {
			want := 0
			switch {
			case i < k:
				want = -1
			case i > k:
				want = 1
			}
			if got := nt.Order(a, b); got != want {
				t.Fatalf("P4.1: Order(%v, %v): %d, want %d", a, b, got, want)
			}
		}
	}
}

// someTerm makes a good term of any kind that may stand at a part of a triple.
func someTerm(random *rand.Rand, part int) term.Term {
	pick := func(l ...string) string { return l[random.Intn(len(l))] }
	text := func(pieces ...string) string {
		s := ""
		for range random.Intn(5) {
			s += pick(pieces...)
		}
		return s
	}
	anIRI := pick("u:", "é::", "a-1:") + text("a", "Z", "0", ":", "#", ".", "'", "@", "é", "\u00a0", "\ufffd", "😀")
	signs := text("a", "\"", "\\", "\\n", "\n", "\r", "\r\n", "\t", "\x00", "\x7f", "\u0085", "'", "^^<u:t>", "@en", " .", "#", "é", "\ufffd", "😀")
	switch kind := random.Intn(6); {
	case part == 1 || kind == 0:
		return iri(anIRI)
	case part == 0 || kind == 1:
		return blank(pick("a", "Z", "0") + text("a", "Z", "0", "_", "-"))
	case kind == 2:
		return literal(signs, term.XLang, pick("a", "en", "EN-gb", "de-1996-x"))
	case kind == 3:
		return literal(signs, pick(term.XInt, term.XBool, anIRI), "")
	}
	return term.Plain(signs)
}

// someTriples makes good triples, as many as one likes.
func someTriples(random *rand.Rand) []nt.Triple {
	l := make([]nt.Triple, random.Intn(4))
	for i := range l {
		l[i] = nt.Triple{S: someTerm(random, 0), P: someTerm(random, 1), O: someTerm(random, 2)}
	}
	return l
}

// isParsed checks that triples, printed, are parsed as they are.
func isParsed(t *testing.T, l []nt.Triple) {
	t.Helper()
	text := nt.Print(l)
	back, place, e := nt.Parse(text)
	if !slices.Equal(back, l) || place != 0 || e != api.OK {
		t.Fatalf("P4.2: %.300q is parsed as %.300q, %d, %d", text, back, place, e)
	}
	if strings.Count(text, "\n") != len(l) || !scan.Good(text) {
		t.Fatalf("P4.2: %.300q isn't a line for each triple", text)
	}
}

// TestPrintedIsParsed: triples that are printed are parsed as they are (P4.2).
func TestPrintedIsParsed(t *testing.T) {
	isParsed(t, nil)
	isParsed(t, goodTriples())
	random := rand.New(rand.NewSource(4))
	for range 20000 {
		l := someTriples(random)
		for _, x := range l {
			if !x.Good() {
				t.Fatalf("%q isn't good", x)
			}
		}
		isParsed(t, l)
	}
}

// TestPrintedEverySign: each sign that may stand in a term is printed and parsed as it is (P4.2).
func TestPrintedEverySign(t *testing.T) {
	var l []nt.Triple
	for r := rune(0); r <= 0x10FFFF; r++ {
		if r > 0x3000 && r%64 > 1 && r < 0xD7F0 || r >= 0xD800 && r <= 0xDFFF || r > 0x10000 && r%256 > 1 {
			continue
		}
		s := string(r)
		x := nt.Triple{S: iri("u:a"), P: iri("u:a"), O: term.Plain(s)}
		if term.Good(blank("a" + s)) {
			x.S = blank("a" + s)
		}
		if term.Good(iri("u:" + s)) {
			x.P = iri("u:" + s)
			l = append(l, nt.Triple{S: x.P, P: x.P, O: literal(s, "u:"+s, "")})
		}
		l = append(l, x)
	}
	isParsed(t, l)
}
