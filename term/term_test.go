package term_test

import (
	"math"
	"regexp"
	"runtime"
	"slices"
	"strconv"
	"strings"
	"testing"
	"unicode/utf8"

	"beck/api"
	"beck/scan"
	"beck/term"
)

func literal(text, kind, lang string) term.Literal {
	return term.Literal{Text: text, Type: kind, Lang: lang}
}

// What else may be handed in as a Term: types that aren't a term's, whatever they say of themselves.
type (
	yes     struct{}
	list    []int
	fails   struct{}
	holds   struct{ term.IRI }
	renamed term.Literal
)

func (yes) Good() bool     { return true }
func (list) Good() bool    { return true }
func (fails) Good() bool   { panic("asked") }
func (renamed) Good() bool { return true }

// strangers are no terms; to hold two of some of them against each other would panic, and to ask some of them, too.
func strangers() []term.Term {
	var noIRI *term.IRI
	var noBlank *term.Blank
	var noLiteral *term.Literal
	one := term.Int(1)
	return []term.Term{
		nil, yes{}, list{1}, list(nil), fails{}, &fails{}, holds{term.IRI{Text: "u:a"}}, renamed(term.Int(1)),
		noIRI, noBlank, noLiteral, &term.IRI{Text: "u:a"}, &term.Blank{Label: "a"}, &one,
	}
}

func TestGood(t *testing.T) {
	long := strings.Repeat
	for _, c := range []struct {
		t    term.Term
		want bool
	}{
		{term.IRI{Text: "u:a"}, true},
		{term.IRI{Text: "u:"}, true},
		{term.IRI{Text: "é:"}, true},
		{term.IRI{Text: "u::"}, true},
		{term.IRI{Text: "-:a:b"}, true},
		{term.IRI{Text: "http://a.b/c?d=e&f#g'()[]*+,;=%20~_@$!"}, true},
		{term.IRI{Text: "u:\u00a0\u2028\ufffd\uffff😀\U0010ffff"}, true},
		{term.IRI{}, false},
		{term.IRI{Text: "a"}, false},
		{term.IRI{Text: ":"}, false},
		{term.IRI{Text: ":a"}, false},
		{term.IRI{Text: ":a:b"}, false}, // nothing is ahead of the first colon
		{term.IRI{Text: "u:a\xff"}, false},
		{term.IRI{Text: "\xff:a"}, false},
		{term.IRI{Text: "u:\xed\xa0\x80"}, false},
		{term.IRI{Text: "u:\xc3"}, false},
		{term.IRI{Text: "u:" + long("a", 4094)}, true},
		{term.IRI{Text: "u:" + long("a", 4095)}, false},
		{term.IRI{Text: "u:" + long("é", 2047)}, true},
		{term.IRI{Text: "u:a" + long("é", 2047)}, false}, // the limit is of bytes, not of signs
		{term.IRI{Text: long("a", 4095) + ":"}, true},
		{term.IRI{Text: long("a", 4096) + ":"}, false},

		{term.Blank{Label: "a"}, true},
		{term.Blank{Label: "Z"}, true},
		{term.Blank{Label: "0"}, true},
		{term.Blank{Label: "9a"}, true},
		{term.Blank{Label: "a_-1"}, true},
		{term.Blank{Label: "a-"}, true},
		{term.Blank{Label: "a__"}, true},
		{term.Blank{}, false},
		{term.Blank{Label: "_a"}, false},
		{term.Blank{Label: "-a"}, false},
		{term.Blank{Label: "_:a"}, false},
		{term.Blank{Label: "é"}, false},
		{term.Blank{Label: "aé"}, false},
		{term.Blank{Label: "a "}, false},
		{term.Blank{Label: "a.b"}, false},
		{term.Blank{Label: "a\xff"}, false},
		{term.Blank{Label: "a\x00"}, false},
		{term.Blank{Label: "a٣"}, false},
		{term.Blank{Label: long("a", 100)}, true},
		{term.Blank{Label: long("a", 101)}, false},
		{term.Blank{Label: "a" + long("-", 99)}, true},
		{term.Blank{Label: "a" + long("-", 100)}, false},

		{literal("", term.XString, ""), true},
		{literal("a\nb\x00\u0085\"\\", "u:t", ""), true},
		{literal("x", term.XInt, ""), true}, // a value isn't asked for
		{literal("x", term.XBool, ""), true},
		{literal("\ufffd", term.XString, ""), true},
		{literal("\xff", term.XString, ""), false},
		{literal("a\xc3", term.XString, ""), false},
		{literal("\xff", term.XLang, "en"), false},
		{literal(long("a", 4096), term.XString, ""), true},
		{literal(long("a", 4097), term.XString, ""), false},
		{literal(long("é", 2048), term.XLang, "en"), true},
		{literal(long("é", 2049), term.XLang, "en"), false},
		{literal("a", "u:"+long("a", 4094), ""), true},
		{literal("a", "u:"+long("a", 4095), ""), false},
		{literal("a", "", ""), false},
		{literal("a", "t", ""), false},
		{literal("a", "u: t", ""), false},
		{literal("a", "u:\xff", ""), false},
		{literal("a", term.XLang, ""), false},
		{literal("a", term.XLang, "en"), true},
		{literal("a", term.XString, "en"), false},
		{literal("a", "", "en"), false},
		{literal("a", "u:t", "en"), false},
	} {
		if got := term.Good(c.t); got != c.want {
			t.Errorf("Good(%.60q): %v", c.t, got)
		}
		if got := c.t.Good(); got != c.want {
			t.Errorf("%.60q says of itself: %v", c.t, got)
		}
	}
	if (term.Literal{}).Good() || term.Good(term.Literal{}) {
		t.Error("a literal of nothing is good")
	}
	for k, x := range strangers() {
		if term.Good(x) {
			t.Errorf("stranger %d is good", k)
		}
	}
}

func TestGoodLanguage(t *testing.T) {
	eight := "abcdefgH"
	for lang, want := range map[string]bool{
		"e": true, "en": true, "EN": true, "en-GB": true, "en-1": true, "de-1996-x": true, "i-0": true,
		eight: true, eight + "i": false, eight + "-12345678": true, eight + "-123456789": false,
		"1": false, "e1": false, "1e-a": false, "-": false, "-en": false, "en-": false, "en--a": false, "en-a-": false,
		"en_GB": false, "en GB": false, " en": false, "é": false, "en-é": false, "en-\xff": false, "\x00": false, "@en": false,
		// 40 signs, and 41.
		"abcd" + strings.Repeat("-12345678", 4):   true,
		"abcde" + strings.Repeat("-12345678", 4):  false,
		"a" + strings.Repeat("-1", 19):            true,
		"ab" + strings.Repeat("-1", 19):           true,
		"abc" + strings.Repeat("-1", 19):          false,
		"ab" + strings.Repeat("-1", 19) + "-":     false,
		"abcd" + strings.Repeat("-12345678", 1e4): false,
	} {
		if got := literal("a", term.XLang, lang).Good(); got != want {
			t.Errorf("%.60q: %v", lang, got)
		}
	}
}

// TestGoodLanguageOfAll: all texts of up to some pieces are a language's, or aren't, as the chapter says.
func TestGoodLanguageOfAll(t *testing.T) {
	form := regexp.MustCompile(`^[A-Za-z]{1,8}(-[A-Za-z0-9]{1,8})*$`)
	pieces := []string{"a", "Z", "7", "-", "abcdefg", "12345678", "-abcdefgh", "_", " ", "é", "\n"}
	var try func(s string, more int)
	try = func(s string, more int) {
		want := form.MatchString(s) && len(s) <= 40
		// Without a language the type would have to be another one.
		if got := literal("", term.XLang, s).Good(); got != want {
			t.Fatalf("%q: %v", s, got)
		}
		if more > 0 {
			for _, p := range pieces {
				try(s+p, more-1)
			}
		}
	}
	try("", 5)
}

// TestGoodEverySign: each sign stands in IRIs, labels, languages and texts where the chapter says so.
func TestGoodEverySign(t *testing.T) {
	const letters = "abcdefghijklmnopqrstuvwxyzABCDEFGHIJKLMNOPQRSTUVWXYZ"
	for r := rune(0); r <= utf8.MaxRune; r++ {
		if !utf8.ValidRune(r) {
			continue
		}
		s := string(r)
		first := strings.Contains(letters+"0123456789", s)
		class := scan.Class(r)
		inIRI := class != 0 && class != 4 && !strings.Contains("<>\"{}|^`\\", s)
		for _, c := range []struct {
			t    term.Term
			want bool
		}{
			{term.IRI{Text: "u:" + s + "a"}, inIRI},
			{term.IRI{Text: s + "u:"}, inIRI && r != ':'},
			{term.Blank{Label: s}, first},
			{term.Blank{Label: s + "a"}, first},
			{term.Blank{Label: "a" + s}, first || r == '_' || r == '-'},
			{literal(s, term.XString, ""), true},
			{literal("", "u:"+s, ""), inIRI},
			{literal("", term.XLang, s), strings.Contains(letters, s)},
			{literal("", term.XLang, "a-"+s), first},
		} {
			if got := term.Good(c.t); got != c.want {
				t.Fatalf("%q: %v", c.t, got)
			}
		}
	}
}

func TestMadeLiterals(t *testing.T) {
	for _, n := range []int64{0, 1, -1, 7, -10, math.MaxInt64, math.MinInt64} {
		x := term.Int(n)
		if x != literal(strconv.FormatInt(n, 10), term.XInt, "") || !x.Good() {
			t.Errorf("Int(%d): %v", n, x)
		}
		if got, e := term.AsInt(x); got != n || e != api.OK {
			t.Errorf("Int(%d) is read as %d, %d", n, got, e)
		}
	}
	for _, b := range []bool{true, false} {
		x := term.Bool(b)
		if x != literal(map[bool]string{true: "true", false: "false"}[b], term.XBool, "") || !x.Good() {
			t.Errorf("Bool(%v): %v", b, x)
		}
		if got, e := term.AsBool(x); got != b || e != api.OK {
			t.Errorf("Bool(%v) is read as %v, %d", b, got, e)
		}
	}
	for _, s := range []string{"", "a", "é\n", "\xff"} {
		if x := term.Plain(s); x != literal(s, term.XString, "") || x.Good() != scan.Good(s) {
			t.Errorf("Plain(%q): %q", s, x)
		}
	}
}

func TestNamesOfTypes(t *testing.T) {
	got := []string{term.XString, term.XInt, term.XBool, term.XLang}
	want := []string{
		"http://www.w3.org/2001/XMLSchema#string",
		"http://www.w3.org/2001/XMLSchema#integer",
		"http://www.w3.org/2001/XMLSchema#boolean",
		"http://www.w3.org/1999/02/22-rdf-syntax-ns#langString",
	}
	if !slices.Equal(got, want) {
		t.Errorf("%q", got)
	}
}

func TestKind(t *testing.T) {
	for _, c := range []struct {
		t    term.Term
		want int
	}{
		{term.Blank{Label: "a"}, 0}, {term.Blank{}, 0}, {term.Blank{Label: "\xff"}, 0},
		{term.IRI{Text: "u:a"}, 1}, {term.IRI{}, 1}, {term.IRI{Text: "no"}, 1},
		{term.Int(1), 2}, {term.Literal{}, 2}, {literal("\xff", "no", "1"), 2},
	} {
		if got := term.Kind(c.t); got != c.want {
			t.Errorf("Kind(%q): %d", c.t, got)
		}
	}
	for k, x := range strangers() {
		if got := term.Kind(x); got != 3 {
			t.Errorf("Kind of stranger %d: %d", k, got)
		}
	}
}

// panicOf tells what MustIRI panics with; nil, if it doesn't.
func panicOf(x term.Term) (what any) {
	defer func() { what = recover() }()
	term.MustIRI(x)
	return nil
}

func TestMustIRI(t *testing.T) {
	for _, s := range []string{"u:a", "", "no", "\xff"} {
		if got := term.MustIRI(term.IRI{Text: s}); got != (term.IRI{Text: s}) {
			t.Errorf("MustIRI of <%s>: %q", s, got)
		}
	}
	for k, x := range append(strangers(), term.Blank{Label: "a"}, term.Blank{}, term.Int(1), term.Literal{}, literal("u:a", "u:a", "")) {
		if _, ok := panicOf(x).(*runtime.TypeAssertionError); !ok {
			t.Errorf("MustIRI of %d doesn't panic as an assertion does: %v", k, panicOf(x))
		}
	}
}
