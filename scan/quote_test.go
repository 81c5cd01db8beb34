package scan_test

import (
	"fmt"
	"math/rand"
	"regexp"
	"strconv"
	"strings"
	"testing"
	"unicode/utf8"

	"beck/api"
	"beck/scan"
)

func TestQuote(t *testing.T) {
	for s, want := range map[string]string{
		"":                       `""`,
		"a b":                    `"a b"`,
		"\t":                     `"\t"`,
		"\n":                     `"\n"`,
		"\r":                     `"\r"`,
		"\b":                     `"\b"`,
		"\f":                     `"\f"`,
		"\"":                     `"\""`,
		"\\":                     `"\\"`,
		"'":                      `"'"`,
		"/":                      `"/"`,
		"\\n":                    `"\\n"`,
		"\x00\x01\x0b\x1b\x1f":   `"\u0000\u0001\u000B\u001B\u001F"`,
		"\x7f\u0080\u009f\u00a0": "\"\\u007F\\u0080\\u009F\u00a0\"",
		"é€😀\ufffd\U0010ffff":    "\"é€😀\ufffd\U0010ffff\"",
		"a\tb\nc":                `"a\tb\nc"`,
	} {
		if got := scan.Quote(s); got != want {
			t.Errorf("Quote(%q): %s, want %s", s, got, want)
		}
	}
}

// TestQuoteEverySign: each sign, quoted, is what the chapter says of it, and is read as itself (P1.2).
func TestQuoteEverySign(t *testing.T) {
	letters := map[rune]string{'\t': "t", '\n': "n", '\r': "r", '\b': "b", '\f': "f", '"': `"`, '\\': `\`}
	for r := rune(0); r <= utf8.MaxRune; r++ {
		if !utf8.ValidRune(r) {
			continue
		}
		want := string(r)
		if letter, ok := letters[r]; ok {
			want = `\` + letter
		} else if r < 0x20 || r >= 0x7F && r < 0xA0 {
			want = fmt.Sprintf(`\u%04X`, r)
		}
		quoted := scan.Quote("a" + string(r) + "b")
		if quoted != `"a`+want+`b"` {
			t.Fatalf("Quote of %#x: %s", r, quoted)
		}
		if got, _, e := scanner(t, quoted).Quoted(); got != "a"+string(r)+"b" || e != api.OK {
			t.Fatalf("%s is read as %q, %d", quoted, got, e)
		}
	}
}

// TestQuotedIsRead: texts of many signs are quoted and read as they are (P1.2), with others ahead of them and behind.
func TestQuotedIsRead(t *testing.T) {
	random := rand.New(rand.NewSource(2))
	signs := []rune("\x00\b\t\n\v\f\r\x1f !\"'/09AZ\\abfnrtuUx{}~\x7f\u0080\u009f\u00a0é€\ud7ff\ue000\ufffd\uffff😀\U0010ffff")
	for range 20000 {
		text := make([]rune, random.Intn(12))
		for i := range text {
			text[i] = signs[random.Intn(len(signs))]
		}
		s := string(text)
		quoted := scan.Quote(s)
		x := at(t, "é\""+quoted+"\"n", 2)
		got, place, e := x.Quoted()
		if got != s || e != api.OK || place != 2+scan.Len(quoted) || x.Place() != place || !x.Is("\"n") {
			t.Fatalf("%s is read as %q, %d, %d; want %q", quoted, got, place, e, s)
		}
	}
}

func TestQuoted(t *testing.T) {
	for s, want := range map[string]string{
		`""`:                       "",
		`"a"`:                      "a",
		`"a" b"`:                   "a",
		`"a""b"`:                   "a",
		`"\t\n\r\b\f\"\'\\"`:       "\t\n\r\b\f\"'\\",
		`"it's"`:                   "it's",
		"\"\t\b\f\x00\x7f\u0085\"": "\t\b\f\x00\x7f\u0085",
		`"é€😀` + "\ufffd" + `"`:    "é€😀\ufffd",
		`"\u0000"`:                 "\x00",
		`"\u000A\u000d\u0022"`:     "\n\r\"",
		`"\u00412"`:                "A2",
		`"\uABCD\uabcd\uEf9a"`:     "\uabcd\uabcd\uef9a",
		`"\uD7FF\uE000\uFFFF"`:     "\ud7ff\ue000\uffff",
		`"\U00000000"`:             "\x00",
		`"\U0000d7ff\U0000E000"`:   "\ud7ff\ue000",
		`"\U0001F6001"`:            "😀1",
		`"\U0010FFFF\U0010ffff"`:   "\U0010ffff\U0010ffff",
		`"\\u0041"`:                `\u0041`,
		`"\\"n"`:                   `\`,
	} {
		x := scanner(t, s)
		got, place, e := x.Quoted()
		if got != want || e != api.OK || place != x.Place() || place == 0 {
			t.Errorf("Quoted of %s: %q, %d, %d", s, got, place, e)
			continue
		}
		if x.Back(place - 1); x.Next() != '"' {
			t.Errorf("Quoted of %s: %d isn't the place behind it", s, place)
		}
	}
}

func TestQuotedWrong(t *testing.T) {
	for _, c := range []struct {
		s     string
		place int
	}{
		{``, 0},
		{`a`, 0},
		{`'a'`, 0},
		{` "a"`, 0},
		{`\"`, 0},
		{`"`, 1},
		{`"a`, 2},
		{`"é€`, 3},
		{`"a\"`, 4},
		{"\"a\nb\"", 2},
		{"\"a\rb\"", 2},
		{"\"\n", 1},
		{`"\`, 2},
		{`"\a"`, 2},
		{`"\v"`, 2},
		{`"\0"`, 2},
		{`"\x41"`, 2},
		{`"\/"`, 2},
		{`"\T"`, 2},
		{`"\é"`, 2},
		{"\"\\\n\"", 2},
		{`"\u"`, 3},
		{`"\u`, 3},
		{`"\u004`, 6},
		{`"\u004"`, 6},
		{`"\u 041"`, 3},
		{`"\u+041"`, 3},
		{`"\u-041"`, 3},
		{`"\u00g1"`, 5},
		{`"\u004G"`, 6},
		{`"\u004é"`, 6},
		{`"\U0001F60`, 10},
		{`"\U0001F60"`, 10},
		{`"\U0001F60g"`, 10},
		{`"\U0041"`, 7},
		{`"\uD800"`, 6},
		{`"\uD800`, 6},
		{`"\udfff"`, 6},
		{`"\uD83D\uDE00"`, 6}, // two halves are no sign, either
		{`"\U0000D800"`, 10},
		{`"\U0000DFFF"`, 10},
		{`"\U00110000"`, 10},
		{`"\U7FFFFFFF"`, 10},
		{`"\U80000041"`, 10},
		{`"\UFFFFFFFF"`, 10},
		{`"\UFFFFFFFg"`, 10},
	} {
		for ahead := range 3 {
			s := "é\""[:[]int{0, 2, 3}[ahead]] + c.s
			x := at(t, s, ahead)
			got, place, e := x.Quoted()
			if got != "" || place != ahead+c.place || e != api.ErrForm || x.Place() != ahead {
				t.Errorf("Quoted of %q at %d: %q, %d, %d, at %d; want place %d", s, ahead, got, place, e, x.Place(), ahead+c.place)
			}
		}
	}
}

// What a quoted text may have, and how it may begin, as far as signs go.
const units = `([^"\\\n\r]|\\[tnrbf"'\\]|\\u[0-9A-Fa-f]{4}|\\U[0-9A-Fa-f]{8})`

var (
	unit   = regexp.MustCompile(units)
	whole  = regexp.MustCompile(`^"` + units + `*"$`)
	begins = regexp.MustCompile(`^("` + units + `*("|\\|\\u[0-9A-Fa-f]{0,3}|\\U[0-9A-Fa-f]{0,7})?)?$`)
)

// read reads the units of what a quoted text may begin with; false, if a number in it is no sign's.
func read(s string) (string, bool) {
	var b strings.Builder
	for _, u := range unit.FindAllString(s, -1) {
		switch {
		case u[0] != '\\':
			b.WriteString(u)
		case u[1] == 'u' || u[1] == 'U':
			n, _ := strconv.ParseInt(u[2:], 16, 64)
			if n > utf8.MaxRune || !utf8.ValidRune(rune(n)) {
				return "", false
			}
			b.WriteRune(rune(n))
		default:
			b.WriteString(map[byte]string{'t': "\t", 'n': "\n", 'r': "\r", 'b': "\b", 'f': "\f", '"': `"`, '\'': "'", '\\': `\`}[u[1]])
		}
	}
	return b.String(), true
}

// wanted tells what Quoted answers at place 0, by trying one sign more at a time.
func wanted(s string) (string, int, api.Errno) {
	signs := []rune(s)
	for n := range len(signs) + 1 {
		ahead := string(signs[:n])
		text, ok := read(ahead)
		if !begins.MatchString(ahead) || !ok {
			return "", n - 1, api.ErrForm
		}
		if whole.MatchString(ahead) {
			return text, n, api.OK
		}
	}
	return "", len(signs), api.ErrForm
}

// TestQuotedOfAll: all texts of up to some pieces are read, or aren't, as the chapter says.
func TestQuotedOfAll(t *testing.T) {
	pieces := []string{`"`, `\t`, `\`, `\u`, `\U`, "D800", "d7fF", "E000", "0010FFFF", "00110000", "80000041", "4", "g", "'", "é", "\n", "\r", "\x00"}
	var try func(s string, more int)
	try = func(s string, more int) {
		x := scanner(t, s)
		got, place, e := x.Quoted()
		text, n, code := wanted(s)
		at := 0
		if code == api.OK {
			at = n
		}
		if got != text || place != n || e != code || x.Place() != at {
			t.Fatalf("Quoted of %q: %q, %d, %d, at %d; want %q, %d, %d", s, got, place, e, x.Place(), text, n, code)
		}
		if more > 0 {
			for _, p := range pieces {
				try(s+p, more-1)
			}
		}
	}
	try("", 1)
	try(`"`, 3)
	for _, p := range pieces {
		try(`"`+p+`"`, 1)
	}
}

// TestAnyPlace: of any bytes, at any place, each call ends and doesn't panic, and a Quoted that fails does nothing.
func TestAnyPlace(t *testing.T) {
	random := rand.New(rand.NewSource(3))
	const bytes = "\"\\uU0aD8\n\x00\xc3\xa9\xff"
	for range 20000 {
		b := make([]byte, random.Intn(20))
		for i := range b {
			b[i] = bytes[random.Intn(len(bytes))]
		}
		s := string(b)
		scan.Quote(s)
		x, _, e := scan.New(s)
		if e != api.OK {
			x = scanner(t, strings.ToValidUTF8(s, "?"))
		}
		for !x.End() {
			from := x.Place()
			_, place, e := x.Quoted()
			if e == api.OK && (place <= from || place != x.Place()) || e != api.OK && (place < from || x.Place() != from) {
				t.Fatalf("%q at %d: Quoted: %d, %d, at %d", s, from, place, e, x.Place())
			}
			x.Is(s)
			x.Until('a')
			x.Next()
		}
	}
}
