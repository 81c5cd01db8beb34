package scan_test

import (
	"math/rand"
	"slices"
	"strings"
	"testing"
	"unicode/utf8"

	"beck/api"
	"beck/scan"
)

// scanner is one of a text that is known to be good.
func scanner(t *testing.T, s string) *scan.Scanner {
	t.Helper()
	x, place, e := scan.New(s)
	if x == nil || place != 0 || e != api.OK {
		t.Fatalf("New(%q): %v, %d, %d", s, x, place, e)
	}
	return x
}

// at is a scanner that has gone on to a place.
func at(t *testing.T, s string, place int) *scan.Scanner {
	t.Helper()
	x := scanner(t, s)
	for range place {
		x.Next()
	}
	if x.Place() != place {
		t.Fatalf("%q: at %d, want %d", s, x.Place(), place)
	}
	return x
}

// The tests of this file are P1.1's: each call answers by the chapter's words. (quote_test.go has those of P1.2, too.)

func TestTexts(t *testing.T) {
	for _, c := range []struct {
		s    string
		len  int
		good bool
	}{
		{"", 0, true},
		{"a", 1, true},
		{"a b\t\r\n\x00\x7f", 8, true},
		{"\u0080\u07ff\u0800\uffff\U00010000\U0010ffff", 6, true},
		{"\ud7ff\ue000", 2, true},
		{"\ufffd", 1, true},
		{"\ufffd\ufffd\xff", 2, false},
		{"a\ufffd\xef\xbf", 2, false},
		{"\xff", 0, false},
		{"\x80", 0, false},
		{"abc\xfe", 3, false},
		{"é\xc3", 1, false},
		{"é\xc3é", 1, false},
		{"a\xe2\x82", 1, false},
		{"a\xe2\x82b\xff", 1, false},
		{"a\xf0\x9f\x98", 1, false},
		{"\xc0\x80", 0, false},         // longer than it need be
		{"\xc1\xbf", 0, false},         // likewise
		{"\xe0\x9f\xbf", 0, false},     // likewise
		{"\xf0\x8f\xbf\xbf", 0, false}, // likewise
		{"\xed\x9f\xbf", 1, true},      // U+D7FF
		{"a\xed\xa0\x80", 1, false},    // U+D800
		{"a\xed\xbf\xbf", 1, false},    // U+DFFF
		{"\xee\x80\x80", 1, true},      // U+E000
		{"\xf4\x8f\xbf\xbf", 1, true},  // U+10FFFF
		{"\xf4\x90\x80\x80", 0, false}, // U+110000
		{"\xf8\x88\x80\x80\x80", 0, false},
	} {
		if got := scan.Good(c.s); got != c.good {
			t.Errorf("Good(%q): %v", c.s, got)
		}
		if got := scan.Len(c.s); got != c.len {
			t.Errorf("Len(%q): %d, want %d", c.s, got, c.len)
		}
		x, place, e := scan.New(c.s)
		if c.good {
			if x == nil || place != 0 || e != api.OK || x.Place() != 0 || x.End() != (c.len == 0) {
				t.Errorf("New(%q): %v, %d, %d", c.s, x, place, e)
			}
		} else if x != nil || place != c.len || e != api.ErrForm {
			t.Errorf("New(%q): %v, %d, %d, want place %d", c.s, x, place, e, c.len)
		}
	}
}

// TestAnyBytes: what is no text is told at its first bad byte, whatever the bytes.
func TestAnyBytes(t *testing.T) {
	random := rand.New(rand.NewSource(1))
	pieces := []string{"a", "é", "€", "😀", "\ufffd", "\xc3", "\xe2", "\xe2\x82", "\xf0\x9f", "\xed\xa0\x80", "\x80", "\xff"}
	for range 20000 {
		var s string
		for range random.Intn(6) {
			s += pieces[random.Intn(len(pieces))]
		}
		want, left := 0, s
		for left != "" {
			r, size := utf8.DecodeRuneInString(left)
			if r == utf8.RuneError && size == 1 {
				break
			}
			want, left = want+1, left[size:]
		}
		x, place, e := scan.New(s)
		if scan.Len(s) != want || scan.Good(s) != (left == "") {
			t.Fatalf("%q: Len %d, Good %v", s, scan.Len(s), scan.Good(s))
		}
		if left == "" {
			if e != api.OK || place != 0 || x == nil {
				t.Fatalf("New(%q): %v, %d, %d", s, x, place, e)
			}
		} else if e != api.ErrForm || place != want || x != nil {
			t.Fatalf("New(%q): %v, %d, %d, want place %d", s, x, place, e, want)
		}
	}
}

// classOf tells a sign's class as the chapter does, by lists of all those below U+00A0.
func classOf(r rune) int {
	switch {
	case r < 0 || r > 0x10FFFF || r >= 0xD800 && r <= 0xDFFF:
		return 6
	case r >= 0xA0:
		return 5
	case slices.Contains([]rune{0x20, 0x09, 0x0A, 0x0D}, r):
		return 0
	case strings.ContainsRune("abcdefghijklmnopqrstuvwxyzABCDEFGHIJKLMNOPQRSTUVWXYZ", r):
		return 1
	case strings.ContainsRune("0123456789", r):
		return 2
	case strings.ContainsRune("!\"#$%&'()*+,-./:;<=>?@[\\]^_`{|}~", r):
		return 3
	}
	return 4
}

func TestClass(t *testing.T) {
	for r := rune(-300); r <= 0x110100; r++ {
		if got := scan.Class(r); got != classOf(r) {
			t.Errorf("Class(%#x): %d, want %d", r, got, classOf(r))
		}
	}
	for r, want := range map[rune]int{
		-1 << 31: 6, 1<<31 - 1: 6, -1: 6,
		0: 4, 8: 4, 9: 0, 10: 0, 11: 4, 12: 4, 13: 0, 14: 4, 0x1F: 4, ' ': 0, '!': 3,
		'/': 3, '0': 2, '9': 2, ':': 3, '@': 3, 'A': 1, 'Z': 1, '[': 3, '`': 3, 'a': 1, 'z': 1, '{': 3,
		'~': 3, 0x7F: 4, 0x80: 4, 0x9F: 4, 0xA0: 5, 0xD7FF: 5, 0xD800: 6, 0xDFFF: 6, 0xE000: 5,
		0xFFFD: 5, 0xFFFF: 5, 0x10FFFF: 5, 0x110000: 6,
	} {
		if got := scan.Class(r); got != want {
			t.Errorf("Class(%#x): %d, want %d", r, got, want)
		}
	}
}

func TestHex(t *testing.T) {
	for r := rune(-300); r <= 0x110100; r++ {
		want := -1
		if r > 0 && r < 0x80 {
			want = strings.IndexRune("0123456789abcdef", r)
			if want < 0 {
				want = strings.IndexRune("0123456789ABCDEF", r)
			}
		}
		if got := scan.Hex(r); got != want {
			t.Errorf("Hex(%#x): %d, want %d", r, got, want)
		}
	}
}

func TestSignBySign(t *testing.T) {
	for _, s := range []string{"", "a", "aé€😀\x00\ufffd\n", "\ufffd"} {
		signs := []rune(s)
		x := scanner(t, s)
		for i, r := range signs {
			if x.Place() != i || x.End() || x.Peek() != r || x.Peek() != r || x.Place() != i {
				t.Errorf("%q: at %d, Peek %d, want %d", s, x.Place(), x.Peek(), r)
			}
			if got := x.Next(); got != r {
				t.Errorf("%q: Next at %d: %d, want %d", s, i, got, r)
			}
		}
		for range 2 {
			if !x.End() || x.Peek() != -1 || x.Next() != -1 || x.Place() != len(signs) {
				t.Errorf("%q: at the end: %d, %d", s, x.Place(), x.Peek())
			}
		}
	}
}

func TestIs(t *testing.T) {
	for _, c := range []struct {
		s     string
		from  int
		text  string
		want  bool
		place int
	}{
		{"abc", 0, "ab", true, 2},
		{"abc", 0, "abc", true, 3},
		{"abc", 0, "", true, 0},
		{"abc", 3, "", true, 3},
		{"", 0, "", true, 0},
		{"abc", 1, "bc", true, 3},
		{"aé€b", 1, "é€", true, 3},
		{"\ufffda", 0, "\ufffd", true, 1},
		{"abc", 0, "abd", false, 0},
		{"abc", 0, "b", false, 0},
		{"abc", 0, "A", false, 0},
		{"abc", 1, "bcd", false, 1},
		{"abc", 3, "c", false, 3},
		{"", 0, "a", false, 0},
		{"aé", 1, "\xc3", false, 1},       // a part of a sign is no text
		{"\ufffda", 0, "\xff", false, 0},  // nor is any other byte
		{"\ufffda", 0, "\xffa", false, 0}, // likewise
		{"a\ufffd", 0, "a\xff", false, 0}, // likewise
		{"ab", 0, "ab\xed\xa0", false, 0}, // likewise
		{"a\u0000", 1, "\x00", true, 2},
	} {
		x := at(t, c.s, c.from)
		if got := x.Is(c.text); got != c.want || x.Place() != c.place {
			t.Errorf("%q at %d: Is(%q): %v, at %d", c.s, c.from, c.text, got, x.Place())
		}
	}
}

func TestBlanks(t *testing.T) {
	for _, c := range []struct {
		s          string
		from, want int
	}{
		{" \t\r\na ", 0, 4},
		{" \t\r\na ", 2, 2},
		{" \t\r\na ", 4, 0},
		{" \t\r\na ", 5, 1},
		{" \t\r\na ", 6, 0},
		{"\u00a0 ", 0, 0},
		{"\x0b ", 0, 0},
		{"\x0c ", 0, 0},
		{"\u0085 ", 0, 0},
		{"", 0, 0},
	} {
		x := at(t, c.s, c.from)
		if got := x.Blanks(); got != c.want || x.Place() != c.from+c.want {
			t.Errorf("%q at %d: Blanks %d, at %d", c.s, c.from, got, x.Place())
		}
	}
}

func TestRun(t *testing.T) {
	for _, c := range []struct {
		s       string
		from    int
		classes []int
		want    string
	}{
		{"ab12_x", 0, []int{1}, "ab"},
		{"ab12_x", 0, []int{1, 2}, "ab12"},
		{"ab12_x", 0, []int{2, 1}, "ab12"},
		{"ab12_x", 0, []int{1, 1, 2, 3}, "ab12_x"},
		{"ab12_x", 2, []int{2}, "12"},
		{"ab12_x", 3, []int{2, 3}, "2_"},
		{"ab12_x", 0, []int{2}, ""},
		{"ab12_x", 0, nil, ""},
		{"ab12_x", 0, []int{6, 7, -1, 1 << 40}, ""},
		{"ab12_x", 6, []int{0, 1, 2, 3, 4, 5, 6}, ""},
		{"", 0, []int{6}, ""},
		{" \tz", 0, []int{0}, " \t"},
		{"\x00\u0085\u00a0", 0, []int{4}, "\x00\u0085"},
		{"é€😀\ufffd!a", 0, []int{5, 3}, "é€😀\ufffd!"},
		{"é€😀\ufffd!a", 1, []int{0, 1, 2, 3, 4, 5}, "€😀\ufffd!a"},
	} {
		x := at(t, c.s, c.from)
		classes := slices.Clone(c.classes)
		got := x.Run(classes...)
		if got != c.want || x.Place() != c.from+len([]rune(c.want)) {
			t.Errorf("%q at %d: Run(%v): %q, at %d", c.s, c.from, c.classes, got, x.Place())
		}
		if !slices.Equal(classes, c.classes) {
			t.Errorf("Run changed %v to %v", c.classes, classes)
		}
	}
}

func TestUntil(t *testing.T) {
	for _, c := range []struct {
		s     string
		from  int
		stop  rune
		want  string
		ok    bool
		place int
	}{
		{"ab>c>", 0, '>', "ab", true, 3},
		{"ab>c>", 3, '>', "c", true, 5},
		{"ab>c>", 2, '>', "", true, 3},
		{"ab>c>", 0, 'a', "", true, 1},
		{"ab>c>", 1, 'a', "", false, 1}, // it was ahead
		{"ab>c>", 5, '>', "", false, 5},
		{"ab>c>", 2, 'x', "", false, 2},
		{"aé€b", 0, '€', "aé", true, 3},
		{"a\n\x00b", 0, 'b', "a\n\x00", true, 4},
		{"", 0, 'x', "", false, 0},
		{"abc", 1, -1, "", false, 1}, // the end isn't a sign
		{"abc", 1, 0xD800, "", false, 1},
		{"abc", 1, 0x110000, "", false, 1},
		{"abc", 1, 0, "", false, 1},
		{"abc", 1, utf8.RuneError, "", false, 1},
		{"a\ufffdc", 0, utf8.RuneError, "a", true, 2},
	} {
		x := at(t, c.s, c.from)
		got, ok := x.Until(c.stop)
		if got != c.want || ok != c.ok || x.Place() != c.place {
			t.Errorf("%q at %d: Until(%d): %q, %v, at %d", c.s, c.from, c.stop, got, ok, x.Place())
		}
	}
}

func TestBack(t *testing.T) {
	const s = "aé€😀"
	signs := []rune(s)
	for from := range len(signs) + 1 {
		for to := -3; to <= len(signs)+3; to++ {
			x := at(t, s, from)
			got := x.Back(to)
			if to < 0 || to > len(signs) {
				if got || x.Place() != from {
					t.Errorf("from %d: Back(%d): %v, at %d", from, to, got, x.Place())
				}
				continue
			}
			if !got || x.Place() != to || x.End() != (to == len(signs)) {
				t.Errorf("from %d: Back(%d): %v, at %d", from, to, got, x.Place())
			}
			want := rune(-1)
			if to < len(signs) {
				want = signs[to]
			}
			if r := x.Next(); r != want {
				t.Errorf("from %d: behind Back(%d): %d, want %d", from, to, r, want)
			}
		}
	}
	x := at(t, s, 2)
	if x.Back(-1<<63) || x.Back(1<<63-1) || x.Back(len(s)) || x.Place() != 2 {
		t.Errorf("Back far outside: at %d", x.Place())
	}
	if y := scanner(t, ""); y.Back(1) || y.Back(-1) || !y.Back(0) || !y.End() {
		t.Error("Back in an empty text")
	}
}

// TestApart: what one scanner does, another one of the same text doesn't tell.
func TestApart(t *testing.T) {
	x, y := scanner(t, "ab \"c\""), scanner(t, "ab \"c\"")
	x.Run(1)
	x.Blanks()
	x.Quoted()
	if !x.End() || y.Place() != 0 || y.Next() != 'a' {
		t.Errorf("at %d and %d", x.Place(), y.Place())
	}
}
