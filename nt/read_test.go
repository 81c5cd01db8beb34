package nt_test

import (
	"math/rand"
	"regexp"
	"slices"
	"strconv"
	"strings"
	"testing"
	"unicode/utf8"

	"beck/api"
	"beck/nt"
	"beck/scan"
	"beck/term"
)

// scanner is one of a text that is known to be good, gone on to a place.
func scanner(t *testing.T, s string, place int) *scan.Scanner {
	t.Helper()
	x, _, e := scan.New(s)
	if e != api.OK || !x.Back(place) {
		t.Fatalf("no place %d of %q", place, s)
	}
	return x
}

// checkRead holds what Read answers, and where it goes to, against what it should.
func checkRead(t *testing.T, s string, from int, want term.Term, place int, code api.Errno) {
	t.Helper()
	x := scanner(t, s, from)
	got, at, e := nt.Read(x)
	behind := from
	if code == api.OK {
		behind = place
	}
	if got != want || at != place || e != code || x.Place() != behind {
		t.Fatalf("P4.1: Read of %.200q from %d: %.200q, %d, %d, at %d; want %.200q, %d, %d, at %d", s, from, got, at, e, x.Place(), want, place, code, behind)
	}
}

func TestRead(t *testing.T) {
	for _, c := range []struct {
		s      string
		want   term.Term
		behind string
	}{
		{`<u:a>`, iri("u:a"), ""},
		{`<u:a>>`, iri("u:a"), ">"},
		{`<u:a><u:b>`, iri("u:a"), "<u:b>"},
		{`<\u0075:\U0001F600\u00e9\u00E9>.`, iri("u:😀éé"), "."},
		{`<u:\u00410>`, iri("u:A0"), ""},
		{`<u:\ud7ff\uE000\U0010ffff>`, iri("u:\ud7ff\ue000\U0010ffff"), ""},
		{"<u:\u00a0😀>", iri("u:\u00a0😀"), ""},
		{`<u:'@#.>`, iri("u:'@#."), ""},
		{`_:a`, blank("a"), ""},
		{`_:a-_1.`, blank("a-_1"), "."},
		{`_:0a<u:a>`, blank("0a"), "<u:a>"},
		{`_:a:b`, blank("a"), ":b"},
		{`_:aé`, blank("a"), "é"},
		{`_:a--__ `, blank("a--__"), " "},
		{`"a"`, term.Plain("a"), ""},
		{`""`, term.Plain(""), ""},
		{`"a""b"`, term.Plain("a"), `"b"`},
		{`"\t\"\'\\\u0041\U00000042"x`, term.Plain("\t\"'\\AB"), "x"},
		{"\"\t\x00\"", term.Plain("\t\x00"), ""},
		{`"a" @en`, term.Plain("a"), " @en"},
		{`"a" ^^<u:t>`, term.Plain("a"), " ^^<u:t>"},
		{`"a"^<u:t>`, term.Plain("a"), "^<u:t>"}, // a single one doesn't go on in a literal
		{`"a"^ ^<u:t>`, term.Plain("a"), "^ ^<u:t>"},
		{`"a"@en`, literal("a", term.XLang, "en"), ""},
		{`"a"@en-GB-1.`, literal("a", term.XLang, "en-GB-1"), "."},
		{`"a"@en_x`, literal("a", term.XLang, "en"), "_x"},
		{`"a"@en^^<u:t>`, literal("a", term.XLang, "en"), "^^<u:t>"},
		{`"a"@en@de`, literal("a", term.XLang, "en"), "@de"},
		{`"a"^^<u:t>`, literal("a", "u:t", ""), ""},
		{`"a"^^<u:t>@en`, literal("a", "u:t", ""), "@en"},
		{`"a"^^<u:t>^^<u:t>`, literal("a", "u:t", ""), "^^<u:t>"},
		{`"a"^^<\u0075:t>`, literal("a", "u:t", ""), ""},
		{`"x"^^<` + term.XInt + `>`, literal("x", term.XInt, ""), ""}, // a value isn't asked for
		{`"a"^^<` + term.XString + `>`, term.Plain("a"), ""},
	} {
		for _, ahead := range []string{"", "é\"<", "_:a", "\\\n"} {
			checkRead(t, ahead+c.s, scan.Len(ahead), c.want, scan.Len(ahead+c.s)-scan.Len(c.behind), api.OK)
		}
	}
	for _, c := range good() {
		checkRead(t, c.text+" .", 0, c.t, scan.Len(c.text), api.OK)
	}
}

func TestReadWrong(t *testing.T) {
	long := strings.Repeat
	for _, c := range []struct {
		s     string
		place int
		code  api.Errno
	}{
		{``, 0, api.ErrForm},
		{` <u:a>`, 0, api.ErrForm},
		{"\n", 0, api.ErrForm},
		{`a`, 0, api.ErrForm},
		{`1`, 0, api.ErrForm},
		{`?x`, 0, api.ErrForm},
		{`>`, 0, api.ErrForm},
		{`.`, 0, api.ErrForm},
		{`:a`, 0, api.ErrForm},
		{`^^<u:a>`, 0, api.ErrForm},
		{`@en`, 0, api.ErrForm},
		{`'a'`, 0, api.ErrForm},
		{`é`, 0, api.ErrForm},

		{`<`, 1, api.ErrForm},
		{`<u:é`, 4, api.ErrForm},
		{"<u:a\n>", 4, api.ErrForm},
		{"<u:a\r\n>", 5, api.ErrForm},
		{`<u:\`, 4, api.ErrForm},
		{`<u:\>`, 4, api.ErrForm},
		{`<u:\\>`, 4, api.ErrForm},
		{`<u:\n>`, 4, api.ErrForm},
		{`<u:\">`, 4, api.ErrForm},
		{`<u:\x41>`, 4, api.ErrForm},
		{`<u:\u`, 5, api.ErrForm},
		{`<u:\u>`, 5, api.ErrForm},
		{`<u:\u 041>`, 5, api.ErrForm},
		{`<u:\u+041>`, 5, api.ErrForm},
		{`<u:\u004>`, 8, api.ErrForm},
		{`<u:\u004g>`, 8, api.ErrForm},
		{`<u:\u004é>`, 8, api.ErrForm},
		{`<u:\U0000004>`, 12, api.ErrForm},
		{`<u:\U0000004`, 12, api.ErrForm},
		{`<u:\U0041>`, 9, api.ErrForm},
		{`<u:\uD800>`, 8, api.ErrForm},
		{`<u:\udfff`, 8, api.ErrForm},
		{`<u:\uD83D\uDE00>`, 8, api.ErrForm}, // two halves are no sign, either
		{`<u:\U0000D800>`, 12, api.ErrForm},
		{`<u:\U00110000>`, 12, api.ErrForm},
		{`<u:\U7FFFFFFF>`, 12, api.ErrForm},
		{`<u:\U80000041>`, 12, api.ErrForm},
		{`<u:\UFFFFFFFF>`, 12, api.ErrForm},
		{`<u: \g>`, 5, api.ErrForm}, // it has no form, so that it wouldn't be good doesn't count

		{`<>`, 0, api.ErrTerm},
		{`<a>`, 0, api.ErrTerm},
		{`<:a>`, 0, api.ErrTerm},
		{`<u: a>`, 0, api.ErrTerm},
		{"<u:\ta>", 0, api.ErrTerm},
		{"<u:\ra>", 0, api.ErrTerm},
		{"<u:\x00a>", 0, api.ErrTerm},
		{`<<u:a>`, 0, api.ErrTerm},
		{`<u:"a">`, 0, api.ErrTerm},
		{`<u:a^b>`, 0, api.ErrTerm},
		{`<u:{}>`, 0, api.ErrTerm},
		{`<u:|>`, 0, api.ErrTerm},
		{"<u:`>", 0, api.ErrTerm},
		{`<u:\u003E>`, 0, api.ErrTerm},
		{`<u:\u003c>`, 0, api.ErrTerm},
		{`<u:\u005C>`, 0, api.ErrTerm},
		{`<u:\u000A>`, 0, api.ErrTerm},
		{`<u:\u0020>`, 0, api.ErrTerm},
		{`<u:\U0000009F>`, 0, api.ErrTerm},
		{`<u:` + long("a", api.MaxText-1) + `>`, 0, api.ErrTerm},
		{`<u:` + long(`\u00e9`, api.MaxText/2) + `>`, 0, api.ErrTerm},

		{`_`, 1, api.ErrForm},
		{`_a`, 1, api.ErrForm},
		{`_ :a`, 1, api.ErrForm},
		{`__:a`, 1, api.ErrForm},
		{`_:`, 0, api.ErrTerm},
		{`_: a`, 0, api.ErrTerm},
		{`_:.`, 0, api.ErrTerm},
		{`_:_a`, 0, api.ErrTerm},
		{`_:-`, 0, api.ErrTerm},
		{`_:é`, 0, api.ErrTerm},
		{`_:` + long("a", 101), 0, api.ErrTerm},

		{`"`, 1, api.ErrForm},
		{`"a`, 2, api.ErrForm},
		{"\"a\n\"", 2, api.ErrForm},
		{"\"a\r\n\"", 2, api.ErrForm},
		{`"\x"`, 2, api.ErrForm},
		{`"\u00g0"`, 5, api.ErrForm},
		{`"\uD800"`, 6, api.ErrForm},
		{`"a"^^`, 5, api.ErrForm},
		{`"a"^^ <u:t>`, 5, api.ErrForm},
		{`"a"^^x`, 5, api.ErrForm},
		{`"a"^^^<u:t>`, 5, api.ErrForm},
		{`"a"^^_:t`, 5, api.ErrForm},
		{`"a"^^"t"`, 5, api.ErrForm},
		{`"a"^^<u:t`, 9, api.ErrForm},
		{`"a"^^<u:\u00g0>`, 12, api.ErrForm},
		{"\"a\"^^<u:t\n>", 9, api.ErrForm},
		{`"` + long("a", api.MaxText+1) + `"^^x`, api.MaxText + 5, api.ErrForm},

		{`"a"^^<>`, 0, api.ErrTerm},
		{`"a"^^<t>`, 0, api.ErrTerm},
		{`"a"^^<u: t>`, 0, api.ErrTerm},
		{`"a"^^<` + term.XLang + `>`, 0, api.ErrTerm}, // it wants a language
		{`"a"@`, 0, api.ErrTerm},
		{`"a"@ en`, 0, api.ErrTerm},
		{`"a"@-`, 0, api.ErrTerm},
		{`"a"@en-`, 0, api.ErrTerm},
		{`"a"@en--x`, 0, api.ErrTerm},
		{`"a"@1`, 0, api.ErrTerm},
		{`"a"@_`, 0, api.ErrTerm},
		{`"a"@é`, 0, api.ErrTerm},
		{`"a"@abcdefghi`, 0, api.ErrTerm},
		{`"a"@en` + long("-12345678", 5), 0, api.ErrTerm},
		{`"` + long("a", api.MaxText+1) + `"`, 0, api.ErrTerm},
		{`"` + long(`\u00e9`, api.MaxText/2+1) + `"@en`, 0, api.ErrTerm},
	} {
		for _, ahead := range []string{"", "é\"<", "_:a", "\\\n"} {
			checkRead(t, ahead+c.s, scan.Len(ahead), nil, scan.Len(ahead)+c.place, c.code)
		}
	}
}

// TestReadOfNothing: where there is no text nothing follows.
func TestReadOfNothing(t *testing.T) {
	for _, x := range []*scan.Scanner{nil, {}} {
		if got, place, e := nt.Read(x); got != nil || place != 0 || e != api.ErrForm {
			t.Errorf("P4.1: Read: %q, %d, %d", got, place, e)
		}
	}
}

// The forms of terms, and how they may begin, as far as signs go.
const (
	iriUnits  = `(?:[^>\n\\]|\\u[0-9A-Fa-f]{4}|\\U[0-9A-Fa-f]{8})*`
	textUnits = `(?:[^"\\\n\r]|\\[tnrbf"'\\]|\\u[0-9A-Fa-f]{4}|\\U[0-9A-Fa-f]{8})*`
	cut       = `(?:\\|\\u[0-9A-Fa-f]{0,3}|\\U[0-9A-Fa-f]{0,7})?`
)

var (
	iriForm     = regexp.MustCompile(`^<(` + iriUnits + `)>`)
	blankForm   = regexp.MustCompile(`^_:([A-Za-z0-9_-]*)`)
	literalForm = regexp.MustCompile(`^"(` + textUnits + `)"(\^\^<` + iriUnits + `>|@[A-Za-z0-9-]*)?`)
	halfType    = regexp.MustCompile(`^"` + textUnits + `"\^\^`)
	beginning   = regexp.MustCompile(`^(?:<` + iriUnits + cut + `|_|"` + textUnits + cut + `|"` + textUnits + `"(?:\^|\^\^(?:<` + iriUnits + cut + `)?)?)?$`)
	escape      = regexp.MustCompile(`\\(?:u[0-9A-Fa-f]{4}|U[0-9A-Fa-f]{8}|[^uU])`)
)

// plain writes out the escapes of a form's text; false, if a number in it is no sign's.
func plain(s string) (string, bool) {
	good := true
	s = escape.ReplaceAllStringFunc(s, func(e string) string {
		if e[1] != 'u' && e[1] != 'U' {
			return map[byte]string{'t': "\t", 'n': "\n", 'r': "\r", 'b': "\b", 'f': "\f", '"': `"`, '\'': "'", '\\': `\`}[e[1]]
		}
		n, _ := strconv.ParseInt(e[2:], 16, 64)
		good = good && n <= utf8.MaxRune && utf8.ValidRune(rune(n))
		return string(rune(n))
	})
	return s, good
}

// formOf tells the term that a text begins with, good or not, and how many bytes it has; 0, if there is none.
func formOf(s string) (term.Term, int) {
	if m := iriForm.FindStringSubmatch(s); m != nil {
		if text, ok := plain(m[1]); ok {
			return iri(text), len(m[0])
		}
	}
	if m := blankForm.FindStringSubmatch(s); m != nil {
		return blank(m[1]), len(m[0])
	}
	m := literalForm.FindStringSubmatch(s)
	if m == nil || m[2] == "" && halfType.MatchString(s) {
		return nil, 0
	}
	text, ok := plain(m[1])
	kind, okay := plain(strings.TrimPrefix(m[2], "^^"))
	switch {
	case !ok || !okay:
		return nil, 0
	case m[2] == "":
		return term.Plain(text), len(m[0])
	case m[2][0] == '@':
		return literal(text, term.XLang, m[2][1:]), len(m[0])
	}
	return literal(text, kind[1:len(kind)-1], ""), len(m[0])
}

// wantedRead tells what Read answers at a text's beginning; of a text that isn't read, by trying one sign more at a time.
func wantedRead(s string) (term.Term, int, api.Errno) {
	if x, bytes := formOf(s); bytes > 0 {
		if !term.Good(x) {
			return nil, 0, api.ErrTerm
		}
		return x, scan.Len(s[:bytes]), api.OK
	}
	signs := []rune(s)
	for n := range signs {
		ahead := string(signs[:n+1])
		if _, ok := plain(ahead); !ok || !beginning.MatchString(ahead) {
			return nil, n, api.ErrForm
		}
	}
	return nil, len(signs), api.ErrForm
}

var pieces = []string{
	"<", ">", "u:", "a", `\u0041`, `\uD800`, `\U0001F600`, `\U80000041`, `\`, `\n`, "\n", "\r", " ", "\t", `"`, "^", "^^", "@", "en", "-", "_", ":", "1", ".", "#", "é", "'",
}

// TestReadOfAll: all texts of some pieces are read, or aren't, as the chapter says.
func TestReadOfAll(t *testing.T) {
	try := func(s string) {
		want, place, code := wantedRead(s)
		checkRead(t, s, 0, want, place, code)
	}
	for _, begin := range []string{"", "<", "<u:", "_", "_:", "_:a", `"`, `"a"`, `"a"^`, `"a"^^`, `"a"^^<u:`, `"a"@`, `"a"@en`} {
		try(begin)
		for _, a := range pieces {
			try(begin + a)
			for _, b := range pieces {
				try(begin + a + b)
				try(begin + a + b + ">")
				try(begin + a + b + `"@en`)
			}
		}
	}
	random := rand.New(rand.NewSource(5))
	for range 50000 {
		s := []string{"<u:", `"`, `"a"^^<u:`, "_:", ""}[random.Intn(5)]
		for range random.Intn(8) {
			s += pieces[random.Intn(len(pieces))]
		}
		try(s)
	}
}

// checkParse holds what Parse answers against what it should.
func checkParse(t *testing.T, s string, want []nt.Triple, place int, code api.Errno) {
	t.Helper()
	got, at, e := nt.Parse(s)
	if !slices.Equal(got, want) || at != place || e != code {
		t.Fatalf("P4.1: Parse(%.300q): %.300q, %d, %d; want %.300q, %d, %d", s, got, at, e, want, place, code)
	}
}

func TestParse(t *testing.T) {
	a, b, c := iri("u:a"), iri("u:b"), iri("u:c")
	abc := nt.Triple{S: a, P: b, O: c}
	for s, want := range map[string][]nt.Triple{
		"":                                    nil,
		"\n":                                  nil,
		"\r\n":                                nil,
		" \t \r\n\n\t":                        nil,
		"#":                                   nil,
		"\t # <u:a> x":                        nil,
		"#a\r":                                nil, // a remark may have anything
		"#a\rb\n":                             nil,
		"#a\r\n#\x00\"\\\n":                   nil,
		"<u:a> <u:b> <u:c> .":                 {abc},
		"<u:a> <u:b> <u:c> .\n":               {abc},
		"<u:a> <u:b> <u:c> .\r\n":             {abc},
		"<u:a> <u:b> <u:c> . \t":              {abc},
		"<u:a><u:b><u:c>.":                    {abc},
		"<u:a><u:b><u:c>.#":                   {abc},
		"<u:a> <u:b> <u:c> . #a\r\n":          {abc},
		"\t \t<u:a>\t <u:b>  <u:c>\t\t.\t \n": {abc},
		"<u:a> <u:b> <u:c> .\n<u:a> <u:b> <u:c> .":                    {abc, abc}, // it is no set
		"\n\n<u:a> <u:b> <u:c> .\r\n\r\n# x\n<u:b> <u:b> <u:a> .\n\n": {abc, {S: b, P: b, O: a}},
		`<u:a> <u:b> "c" .`:                  {{S: a, P: b, O: term.Plain("c")}}, // the chapter's example
		`_:a<u:b>_:a.`:                       {{S: blank("a"), P: b, O: blank("a")}},
		`_:a<u:b>"a"@en-1.`:                  {{S: blank("a"), P: b, O: literal("a", term.XLang, "en-1")}},
		`<u:a><u:b>"1"^^<u:t>.`:              {{S: a, P: b, O: literal("1", "u:t", "")}},
		`<u:a><u:b>" . # ".# " .`:            {{S: a, P: b, O: term.Plain(" . # ")}},
		`<u:a><u:b#>"a\n\"".`:                {{S: a, P: iri("u:b#"), O: term.Plain("a\n\"")}},
		"<u:a><u:b>\"\ta\x00\".":             {{S: a, P: b, O: term.Plain("\ta\x00")}},
		"<u:\\u0061> <\\U00000075:b> <u:c>.": {abc},
	} {
		checkParse(t, s, want, 0, api.OK)
	}
}

func TestParseWrong(t *testing.T) {
	for _, c := range []struct {
		s     string
		place int
		code  api.Errno
	}{
		{"\xff", 0, api.ErrForm},
		{"é\xff", 1, api.ErrForm},
		{"x\ny\xff", 3, api.ErrForm}, // that it is no text is told ahead of its first wrong line
		{"# \xed\xa0\x80", 2, api.ErrForm},
		{"<u:a> <u:b> \"\xc3\" .", 13, api.ErrForm},

		{"x", 0, api.ErrForm},
		{" x", 1, api.ErrForm},
		{".", 0, api.ErrForm},
		{"\r", 0, api.ErrForm},
		{"\r\r\n", 0, api.ErrForm},
		{" \r \n", 1, api.ErrForm},
		{"\f", 0, api.ErrForm},
		{"\u00a0", 0, api.ErrForm},
		{"\ufeff<u:a> <u:b> <u:c> .", 0, api.ErrForm},
		{"<u:a>", 5, api.ErrForm},
		{"<u:a> ", 6, api.ErrForm},
		{"<u:a> .", 6, api.ErrForm},
		{"<u:a> <u:b>", 11, api.ErrForm},
		{"<u:a> <u:b>.", 11, api.ErrForm},
		{"<u:a> <u:b> # <u:c> .", 12, api.ErrForm},
		{"<u:a> <u:b>\n<u:c> .", 11, api.ErrForm},
		{"<u:a> <u:b>\r\n<u:c> .", 11, api.ErrForm},
		{"<u:a> <u:b> <u:c>", 17, api.ErrForm},
		{"<u:a> <u:b> <u:c> ", 18, api.ErrForm},
		{"<u:a> <u:b> <u:c>\n.", 17, api.ErrForm},
		{"<u:a> <u:b> <u:c>\r\n", 17, api.ErrForm},
		{"<u:a> <u:b> <u:c> # .", 18, api.ErrForm},
		{"<u:a> <u:b> <u:c> <u:d> .", 18, api.ErrForm},
		{"<u:a> <u:b> <u:c> ;", 18, api.ErrForm},
		{"<u:a> <u:b> <u:c> ..", 19, api.ErrForm},
		{"<u:a> <u:b> <u:c> . .", 20, api.ErrForm},
		{"<u:a> <u:b> <u:c> . <u:d>", 20, api.ErrForm},
		{"<u:a> <u:b> <u:c> .\r", 19, api.ErrForm},
		{"<u:a> <u:b> <u:c> .\r\r\n", 19, api.ErrForm},
		{"<u:a> <u:b> <u:c> .\r \n", 19, api.ErrForm},
		{"<u:a> <u:b> <u:c> .\rx", 19, api.ErrForm},
		{"<u:a> <u:b> <u:c> .\v", 19, api.ErrForm},
		{"<u:a>\r<u:b> <u:c> .", 5, api.ErrForm},
		{"<u:a>\f<u:b> <u:c> .", 5, api.ErrForm},
		{"<u:a> <u:b> \"a\"^<u:c> .", 15, api.ErrForm},
		{"<u:a> <u:b> \"a\"@en_ .", 18, api.ErrForm},
		{"<u:a> <u:b> _:a:b .", 15, api.ErrForm},
		{"<u:é> <u:b> x .", 12, api.ErrForm}, // places are signs, not bytes
		{"<u:a> <u:b> <u:c> .\n\n# é\n <u:a> x", 32, api.ErrForm},

		{"\"a\" <u:b> <u:c> .", 0, api.ErrTerm},
		{"\t\"a\"@en <u:b> <u:c> .", 1, api.ErrTerm},
		{"\"a\"", 0, api.ErrTerm},   // the term, ahead of what is missing behind it
		{"\"a\" x", 0, api.ErrTerm}, // likewise
		{"\"a\"@ <u:b>", 0, api.ErrTerm},
		{"\"a", 2, api.ErrForm},
		{"<u:a> _:b <u:c> .", 6, api.ErrTerm},
		{"<u:a>_:b", 5, api.ErrTerm},
		{"<u:a> \"b\" <u:c> .", 6, api.ErrTerm},
		{"<u:a> \"b\"^^<u:t> <u:c> .", 6, api.ErrTerm},
		{"<u:a> \"b\"^^x <u:c> .", 11, api.ErrForm},
		{"<a> <u:b> <u:c> .", 0, api.ErrTerm},
		{"<u:a> <b> <u:c> .", 6, api.ErrTerm},
		{"<u:a> <u:b> <c> .", 12, api.ErrTerm},
		{"<u:a> <u:b> _: .", 12, api.ErrTerm},
		{"<u:a> <u:b> \"a\"@. ", 12, api.ErrTerm},
		{"<u:a> <u:b> <u:c\r\n> .", 17, api.ErrForm},
		{"<u:a> <u:b> <u:c> .\n<u:a> <u:b> <c> .\nx", 32, api.ErrTerm},
		{"<u:a> <u:b> <u:c> .\nx\n<u:a> <b> .", 20, api.ErrForm},
	} {
		checkParse(t, c.s, nil, c.place, c.code)
	}
}

// TestParseEverySign: no sign but spaces and tabs may stand where those may.
func TestParseEverySign(t *testing.T) {
	want := []nt.Triple{{S: iri("u:a"), P: iri("u:b"), O: iri("u:c")}}
	for r := rune(0); r <= 0x3100; r++ {
		s := string(r)
		for place, text := range map[int]string{
			0:  s + "<u:a><u:b><u:c>.",
			5:  "<u:a>" + s + "<u:b><u:c>.",
			10: "<u:a><u:b>" + s + "<u:c>.",
			15: "<u:a><u:b><u:c>" + s + ".",
			16: "<u:a><u:b><u:c>." + s,
		} {
			wrong := place
			if place == 15 && r == '.' {
				wrong++ // it is the triple's
			}
			switch {
			case r == ' ' || r == '\t' || place == 16 && (r == '#' || r == '\n') || place == 0 && r == '\n':
				checkParse(t, text, want, 0, api.OK)
			case place == 0 && r == '#':
				checkParse(t, text, nil, 0, api.OK)
			case place < 15 && strings.ContainsRune(`<_"`, r):
				if _, _, e := nt.Parse(text); e == api.OK {
					t.Errorf("P4.1: %q is parsed", text)
				}
			default:
				checkParse(t, text, nil, wrong, api.ErrForm)
			}
		}
	}
}

var (
	blanks = regexp.MustCompile(`^[ \t]*`)
	empty  = regexp.MustCompile(`^[ \t]*(?:#.*)?$`)
)

// wantedParse tells what Parse answers, line by line.
func wantedParse(s string) ([]nt.Triple, int, api.Errno) {
	var l []nt.Triple
	at := 0
	behind := func() { at += len(blanks.FindString(s[at:])) }
	for at < len(s) {
		line, _, more := strings.Cut(s[at:], "\n")
		end := at + len(line)
		if more {
			line = strings.TrimSuffix(line, "\r")
		}
		last := at + len(line) // where what belongs to the line's end begins
		if !empty.MatchString(line) {
			var parts [3]term.Term
			for i := range parts {
				behind()
				x, place, code := wantedRead(s[at:])
				_, bytes := formOf(s[at:])
				if code == api.OK && (i < 2 && term.Kind(x) == 2 || i == 1 && term.Kind(x) == 0) {
					place, code = 0, api.ErrTerm
				}
				if code != api.OK {
					return nil, scan.Len(s[:at]) + place, code
				}
				parts[i], at = x, at+bytes
			}
			behind()
			if !strings.HasPrefix(s[at:], ".") {
				return nil, scan.Len(s[:at]), api.ErrForm
			}
			if at++; !empty.MatchString(s[at:last]) {
				behind()
				return nil, scan.Len(s[:at]), api.ErrForm
			}
			l = append(l, nt.Triple{S: parts[0], P: parts[1], O: parts[2]})
		}
		at = end + 1
	}
	return l, 0, api.OK
}

// someLines makes lines of triples, and then puts pieces into them, or takes some signs away.
func someLines(random *rand.Rand) string {
	between := func() string { return []string{"", " ", "\t", "  \t"}[random.Intn(4)] }
	var b strings.Builder
	for _, x := range someTriples(random) {
		b.WriteString(between() + nt.Text(x.S) + between() + nt.Text(x.P) + between() + nt.Text(x.O) + between() + "." + between())
		b.WriteString([]string{"\n", "\r\n", "# a\n", "#\r\n", "\n\n", "\n#<\n"}[random.Intn(6)])
	}
	signs := []rune(b.String())
	for range random.Intn(3) {
		place := random.Intn(len(signs) + 1)
		away := min(random.Intn(3), len(signs)-place)
		piece := []rune(pieces[random.Intn(len(pieces))])
		signs = slices.Replace(signs, place, place+away, piece[:random.Intn(len(piece)+1)]...)
	}
	return string(signs)
}

// TestParseOfMany: lines with and without faults are parsed, or aren't, as the chapter says; and what is parsed, printed, and parsed again, is the same (P4.2).
func TestParseOfMany(t *testing.T) {
	random := rand.New(rand.NewSource(6))
	parsed, faulty := 0, 0
	for range 40000 {
		s := someLines(random)
		want, place, code := wantedParse(s)
		checkParse(t, s, want, place, code)
		if code != api.OK {
			faulty++
			continue
		}
		parsed += len(want)
		isParsed(t, want)
	}
	if parsed < 10000 || faulty < 10000 {
		t.Errorf("%d triples, %d texts with a fault: too few to tell", parsed, faulty)
	}
}

// TestParseOfAll: all texts of a few pieces, behind a triple's beginning.
func TestParseOfAll(t *testing.T) {
	for _, begin := range []string{"", "<u:a>", "<u:a> <u:b>", "<u:a> <u:b> _:c", "<u:a> <u:b> \"c\"", "<u:a> <u:b> <u:c> .", "_:a <u:b> <u:c> .\n", "#"} {
		for _, a := range pieces {
			for _, b := range pieces {
				for _, end := range []string{"", ".", "\n", "\r\n", "<u:d>."} {
					s := begin + a + b + end
					want, place, code := wantedParse(s)
					checkParse(t, s, want, place, code)
				}
			}
		}
	}
}

// TestAnyBytes: of any bytes Parse ends, doesn't panic, and tells a place within the text (P8).
func TestAnyBytes(t *testing.T) {
	random := rand.New(rand.NewSource(7))
	for range 40000 {
		b := []byte(someLines(random))
		for range random.Intn(4) {
			if len(b) > 0 {
				b[random.Intn(len(b))] = byte(random.Intn(256))
			}
		}
		s := string(b)
		l, place, e := nt.Parse(s)
		if e != api.OK && len(l) != 0 || e == api.OK && place != 0 || place < 0 || place > scan.Len(s) {
			t.Fatalf("P4.1: Parse(%q): %q, %d, %d", s, l, place, e)
		}
		if !scan.Good(s) && (place != scan.Len(s) || e != api.ErrForm) {
			t.Fatalf("P4.1: Parse(%q): %d, %d", s, place, e)
		}
		if e == api.OK {
			isParsed(t, l)
		}
	}
}
