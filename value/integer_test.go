package value_test

import (
	"math/big"
	"math/rand"
	"regexp"
	"slices"
	"strings"
	"testing"

	"beck/api"
	"beck/value"
)

const (
	low  = -1 << 63
	high = 1<<63 - 1
)

// edges are integers at which sums, differences, products and quotients just fit, or just don't.
func edges() []int64 {
	l := []int64{3037000499, 3037000500, -3037000499, -3037000500} // the root of 2^63, from below and above
	for _, n := range []int64{0, 1 << 31, 1 << 32, 1 << 62, 10, 1e9, 1e18, high / 2, high / 3, high / 7, 4294967297} {
		for d := int64(-3); d <= 3; d++ {
			l = append(l, n+d, -n+d)
		}
	}
	for d := range int64(4) {
		l = append(l, low+d, high-d)
	}
	slices.Sort(l)
	return slices.Compact(l)
}

// within answers what a call is to answer of what comes out.
func within(n *big.Int) (int64, api.Errno) {
	if !n.IsInt64() {
		return 0, api.ErrOver
	}
	return n.Int64(), api.OK
}

func whole(n int64) *big.Int { return big.NewInt(n) }

// floor is a quotient downwards, of b that isn't 0.
func floor(a, b *big.Int) *big.Int {
	// Of a divisor above 0, Euclid's division is downwards.
	if b.Sign() < 0 {
		a, b = new(big.Int).Neg(a), new(big.Int).Neg(b)
	}
	return new(big.Int).Div(a, b)
}

func TestOfTwo(t *testing.T) {
	random := rand.New(rand.NewSource(1))
	l := edges()
	for range 200 {
		l = append(l, int64(random.Uint64())>>random.Intn(64))
	}
	for _, a := range l {
		for _, b := range l {
			try := func(name string, call func(a, b int64) (int64, api.Errno), want int64, code api.Errno) {
				if got, e := call(a, b); got != want || e != code {
					t.Errorf("%s(%d, %d): %d, %d, want %d, %d", name, a, b, got, e, want, code)
				}
			}
			n, e := within(new(big.Int).Add(whole(a), whole(b)))
			try("Add", func(a, b int64) (int64, api.Errno) { return value.Add(a, b) }, n, e)
			n, e = within(new(big.Int).Sub(whole(a), whole(b)))
			try("Sub", value.Sub, n, e)
			n, e = within(new(big.Int).Mul(whole(a), whole(b)))
			try("Mul", func(a, b int64) (int64, api.Errno) { return value.Mul(a, b) }, n, e)
			if b == 0 {
				try("Div", value.Div, 0, api.ErrRange)
				try("Floor", value.Floor, 0, api.ErrRange)
			} else {
				n, e = within(new(big.Int).Quo(whole(a), whole(b)))
				try("Div", value.Div, n, e)
				n, e = within(floor(whole(a), whole(b)))
				try("Floor", value.Floor, n, e)
			}
			if got := value.Order(a, b); got != whole(a).Cmp(whole(b)) {
				t.Errorf("Order(%d, %d): %d", a, b, got)
			}
		}
	}
}

func TestSums(t *testing.T) {
	for _, c := range []struct {
		l    []int64
		n    int64
		code api.Errno
	}{
		{nil, 0, api.OK},
		{[]int64{}, 0, api.OK},
		{[]int64{0}, 0, api.OK},
		{[]int64{7}, 7, api.OK},
		{[]int64{low}, low, api.OK},
		{[]int64{high}, high, api.OK},
		{[]int64{1, 2, 3, -10}, -4, api.OK},
		{[]int64{low, high}, -1, api.OK},
		{[]int64{high, low}, -1, api.OK},
		{[]int64{high - 1, 1}, high, api.OK},
		{[]int64{high, 1}, 0, api.ErrOver},
		{[]int64{1, high}, 0, api.ErrOver},
		{[]int64{low + 1, -1}, low, api.OK},
		{[]int64{low, -1}, 0, api.ErrOver},
		{[]int64{low, low}, 0, api.ErrOver}, // it would wrap round to 0
		{[]int64{high, high}, 0, api.ErrOver},
		{[]int64{high, 1, -1}, 0, api.ErrOver}, // what is behind doesn't bring it back
		{[]int64{high, -1, 1}, high, api.OK},
		{[]int64{low, -1, 1}, 0, api.ErrOver},
		{[]int64{low, 1, -1}, low, api.OK},
		{[]int64{high, 1, low, low}, 0, api.ErrOver},
		{[]int64{high, 0, 0, 0}, high, api.OK},
	} {
		if got, e := value.Add(c.l...); got != c.n || e != c.code {
			t.Errorf("Add of %v: %d, %d, want %d, %d", c.l, got, e, c.n, c.code)
		}
	}
}

func TestProducts(t *testing.T) {
	for _, c := range []struct {
		l    []int64
		n    int64
		code api.Errno
	}{
		{nil, 1, api.OK},
		{[]int64{}, 1, api.OK},
		{[]int64{0}, 0, api.OK},
		{[]int64{7}, 7, api.OK},
		{[]int64{low}, low, api.OK},
		{[]int64{high}, high, api.OK},
		{[]int64{2, -3, 5, 7}, -210, api.OK},
		{[]int64{low, 1}, low, api.OK},
		{[]int64{1, low}, low, api.OK},
		{[]int64{low, -1}, 0, api.ErrOver},
		{[]int64{-1, low}, 0, api.ErrOver},
		{[]int64{high, -1}, -high, api.OK},
		{[]int64{1 << 31, 1 << 32}, 0, api.ErrOver},
		{[]int64{-1 << 31, 1 << 32}, low, api.OK},
		{[]int64{1 << 32, 1 << 32}, 0, api.ErrOver}, // it would wrap round to 0
		{[]int64{3037000499, 3037000499}, 9223372030926249001, api.OK},
		{[]int64{3037000500, 3037000500}, 0, api.ErrOver},
		{[]int64{high, 2, 0}, 0, api.ErrOver}, // what is behind doesn't bring it back
		{[]int64{high, 0, 2}, 0, api.OK},
		{[]int64{0, high, high}, 0, api.OK},
		{[]int64{low, -1, -1}, 0, api.ErrOver},
		{[]int64{-1, -1, low}, low, api.OK},
		{[]int64{low, 0, -1}, 0, api.OK},
	} {
		if got, e := value.Mul(c.l...); got != c.n || e != c.code {
			t.Errorf("Mul of %v: %d, %d, want %d, %d", c.l, got, e, c.n, c.code)
		}
	}
}

// TestOfMany: sums and products stop as soon as what comes out is none, and what is handed in stays as it is.
func TestOfMany(t *testing.T) {
	random := rand.New(rand.NewSource(2))
	from := append(edges(), 0, 0, 1, 1, -1, -1, 2, -2, 3, 5)
	for range 50000 {
		l := make([]int64, random.Intn(8))
		for i := range l {
			l[i] = from[random.Intn(len(from))] >> (random.Intn(2) * random.Intn(64))
		}
		handed := slices.Clone(l)
		sum, product := whole(0), whole(1)
		for _, n := range l {
			if sum.IsInt64() {
				sum.Add(sum, whole(n))
			}
			if product.IsInt64() {
				product.Mul(product, whole(n))
			}
		}
		n, code := within(sum)
		if got, e := value.Add(handed...); got != n || e != code {
			t.Fatalf("Add of %v: %d, %d, want %d, %d", l, got, e, n, code)
		}
		n, code = within(product)
		if got, e := value.Mul(handed...); got != n || e != code {
			t.Fatalf("Mul of %v: %d, %d, want %d, %d", l, got, e, n, code)
		}
		if !slices.Equal(handed, l) {
			t.Fatalf("%v was changed to %v", l, handed)
		}
	}
}

func TestQuotients(t *testing.T) {
	for _, c := range []struct {
		a, b, div, floor int64
		code             api.Errno
	}{
		{7, 2, 3, 3, api.OK},
		{-7, 2, -3, -4, api.OK},
		{7, -2, -3, -4, api.OK},
		{-7, -2, 3, 3, api.OK},
		{8, -2, -4, -4, api.OK},
		{-8, 2, -4, -4, api.OK},
		{1, 2, 0, 0, api.OK},
		{-1, 2, 0, -1, api.OK},
		{1, -2, 0, -1, api.OK},
		{0, 5, 0, 0, api.OK},
		{0, -5, 0, 0, api.OK},
		{low, 1, low, low, api.OK},
		{low + 1, -1, high, high, api.OK},
		{low, -1, 0, 0, api.ErrOver},
		{low, 2, low / 2, low / 2, api.OK},
		{low, 3, -3074457345618258602, -3074457345618258603, api.OK},
		{low, low, 1, 1, api.OK},
		{low, high, -1, -2, api.OK},
		{high, low, 0, -1, api.OK},
		{high, -1, -high, -high, api.OK},
		{high, high, 1, 1, api.OK},
		{0, 0, 0, 0, api.ErrRange},
		{1, 0, 0, 0, api.ErrRange},
		{-1, 0, 0, 0, api.ErrRange},
		{low, 0, 0, 0, api.ErrRange},
		{high, 0, 0, 0, api.ErrRange},
	} {
		if got, e := value.Div(c.a, c.b); got != c.div || e != c.code {
			t.Errorf("Div(%d, %d): %d, %d, want %d, %d", c.a, c.b, got, e, c.div, c.code)
		}
		if got, e := value.Floor(c.a, c.b); got != c.floor || e != c.code {
			t.Errorf("Floor(%d, %d): %d, %d, want %d, %d", c.a, c.b, got, e, c.floor, c.code)
		}
	}
}

func TestOrder(t *testing.T) {
	for _, c := range []struct {
		a, b int64
		want int
	}{
		{1, 2, -1}, {2, 2, 0}, {3, 2, 1}, {-1, 1, -1}, {-1, -2, 1},
		{low, high, -1}, {high, low, 1}, {low, low, 0}, {high, high, 0}, {low, 1, -1}, {0, low, 1},
	} {
		if got := value.Order(c.a, c.b); got != c.want {
			t.Errorf("Order(%d, %d): %d, want %d", c.a, c.b, got, c.want)
		}
	}
}

func TestText(t *testing.T) {
	for n, want := range map[int64]string{
		0: "0", 7: "7", -7: "-7", 10: "10", -100: "-100",
		low: "-9223372036854775808", high: "9223372036854775807", low + 1: "-9223372036854775807",
	} {
		if got := value.Text(n); got != want {
			t.Errorf("Text(%d): %q, want %q", n, got, want)
		}
	}
	for _, n := range edges() {
		text := value.Text(n)
		if text != whole(n).String() {
			t.Errorf("Text(%d): %q", n, text)
		}
		if got, e := value.Parse(text); got != n || e != api.OK {
			t.Errorf("Parse(%q): %d, %d", text, got, e)
		}
	}
}

func TestParse(t *testing.T) {
	noughts := strings.Repeat("0", 100000)
	for s, want := range map[string]int64{
		"0": 0, "+0": 0, "-0": 0, "000": 0, "-000": 0,
		"7": 7, "+7": 7, "-7": -7, "007": 7, "+007": 7, "-0012": -12, "08": 8, "010": 10,
		"9223372036854775807":             high,
		"+9223372036854775807":            high,
		"-9223372036854775808":            low,
		"0009223372036854775807":          high,
		"-0009223372036854775808":         low,
		noughts:                           0,
		"-" + noughts + "9":               -9,
		noughts + "9223372036854775807":   high,
		"-" + noughts + "922337203685477": -922337203685477,
	} {
		if got, e := value.Parse(s); got != want || e != api.OK {
			t.Errorf("Parse(%.40q): %d, %d, want %d", s, got, e, want)
		}
	}
}

func TestParseTooGreat(t *testing.T) {
	for _, s := range []string{
		"9223372036854775808",
		"+9223372036854775808",
		"-9223372036854775809",
		"9223372036854775810",
		"0009223372036854775808",
		"-0009223372036854775809",
		"18446744073709551615",
		"18446744073709551616", // it would wrap round to 0
		"-18446744073709551616",
		"18446744073709551617",
		"99999999999999999999",
		"1" + strings.Repeat("0", 100000),
		"-" + strings.Repeat("9", 100000),
		strings.Repeat("0", 100000) + "9223372036854775808",
	} {
		if got, e := value.Parse(s); got != 0 || e != api.ErrOver {
			t.Errorf("Parse(%.40q): %d, %d", s, got, e)
		}
	}
}

func TestParseWrong(t *testing.T) {
	for _, s := range []string{
		"", "+", "-", "++1", "--1", "+-1", "-+1", "1+", "1-", "1-1",
		" ", " 1", "1 ", "1 2", "- 1", "+ 1", "\t1", "1\n", "\r",
		"a", "1a", "a1", "0x10", "0b1", "0o7", "1_0", "_1", "1_", "1e3", "1.0", ".1", "1.", "1,000", "'1'", `"1"`,
		"٣", "１", "1²", "−1", "é", "\x00", "1\x00", "\xff", "1\xff", "\ufffd", "/", ":", "1/", "1:",
		"inf", "NaN", "true",
		// None of these is an integer's, so that it would be too great doesn't count.
		"9223372036854775808a", "99999999999999999999 ", "-99999999999999999999-", "99999999999999999999_0", "+-99999999999999999999",
		strings.Repeat("9", 100000) + "x",
	} {
		if got, e := value.Parse(s); got != 0 || e != api.ErrForm {
			t.Errorf("Parse(%.40q): %d, %d", s, got, e)
		}
	}
}

// TestParseOfAll: all texts of up to five pieces are an integer's, or aren't, as the chapter says.
func TestParseOfAll(t *testing.T) {
	form := regexp.MustCompile(`^[+-]?[0-9]+$`)
	pieces := []string{"+", "-", "0", "7", "922337203685477580", "8", "9", " ", "_", "x", "\n", "\x80"}
	var try func(s string, more int)
	try = func(s string, more int) {
		var want int64
		code := api.ErrForm
		if form.MatchString(s) {
			n, _ := new(big.Int).SetString(s, 10)
			want, code = within(n)
		}
		if got, e := value.Parse(s); got != want || e != code {
			t.Fatalf("Parse(%q): %d, %d, want %d, %d", s, got, e, want, code)
		}
		if more > 0 {
			for _, p := range pieces {
				try(s+p, more-1)
			}
		}
	}
	try("", 5)
}
