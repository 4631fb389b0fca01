package sym_test

import (
	"slices"
	"strings"
	"testing"

	"exergue/api"
	"exergue/class"
	"exergue/sym"
)

// latin and deva are good signs.
var (
	latin = api.Sym{Zero: '0', Dec: '.', Group: ',', Minus: '-', Plus: '+', Percent: '%', Exp: 'E'}
	deva  = api.Sym{Zero: 0x966, Dec: ',', Group: 0xA0, Minus: 0x2212, Plus: '+', Percent: '%', Exp: 0xD7}
)

func row(s string) []byte {
	out := []byte(s)
	for i := range out {
		out[i] -= '0'
	}
	return out
}

// set is good signs with one changed.
func set(i int, r rune) api.Sym {
	s := latin
	*[]*rune{&s.Zero, &s.Dec, &s.Group, &s.Minus, &s.Plus, &s.Percent, &s.Exp}[i] = r
	return s
}

// P13.1: which are good.
func TestGood(t *testing.T) {
	if !sym.Good(latin) || !sym.Good(deva) || sym.Good(api.Sym{}) {
		t.Error("known ones")
	}
	for _, z := range []rune{0x30, 0x660, 0x6F0, 0x966, 0xFF10, 0x1D7CE} {
		if !sym.Good(set(0, z)) {
			t.Errorf("%x", z)
		}
	}
	for _, z := range []rune{0x31, 0x39, 0x2F, 0x661, 0, -1, 'a', 0x1D7D8} {
		if sym.Good(set(0, z)) {
			t.Errorf("%x", z)
		}
	}
	for i := 1; i < 7; i++ {
		for _, r := range []rune{'a', ' ', 0xA0, 0x202F, 0x2019, 0x66B, 0x10FFFD} {
			if !sym.Good(set(i, r)) {
				t.Errorf("%d, %x", i, r)
			}
		}
		for _, r := range []rune{'0', '5', 0x660, 0, 9, 0x7F, 0x200E, 0x2066, 0x61C, 0xFFFE, 0xFDD0, 0xD800, -1, 0x110000} {
			if sym.Good(set(i, r)) {
				t.Errorf("%d, %x", i, r)
			}
		}
		for j := 1; j < 7; j++ {
			if r := []rune{0, '.', ',', '-', '+', '%', 'E'}[j]; sym.Good(set(i, r)) != (i == j) {
				t.Error(i, j)
			}
		}
	}
}

// P13.1: digits, and what stands in a number.
func TestInNumberAndValue(t *testing.T) {
	for _, s := range []api.Sym{latin, deva} {
		for _, r := range append([]rune{-1 << 31, 1<<31 - 1, -1, 0, '/', ':', '0', '9', 0x965, 0x966, 0x96F, 0x970, 0x660, 'e'}, s.Dec, s.Group, s.Minus, s.Plus, s.Percent, s.Exp) {
			digit := r >= s.Zero && r < s.Zero+10
			n, ok := sym.Value(s, r)
			if ok != digit || digit && rune(n) != r-s.Zero || !digit && n != 0 {
				t.Errorf("%x: %d, %v", r, n, ok)
			}
			if sym.InNumber(s, r) != (digit || r == s.Dec || r == s.Group || r == s.Exp) {
				t.Errorf("%x", r)
			}
		}
	}
}

// P13.2: figures as digits.
func TestDigits(t *testing.T) {
	if got := sym.Digits(latin, row("0123456789")); string(got) != "0123456789" {
		t.Error(got)
	}
	if got := sym.Digits(deva, row("9070")); !slices.Equal(got, []rune{0x96F, 0x966, 0x96D, 0x966}) {
		t.Error(got)
	}
	if got := sym.Digits(latin, nil); len(got) != 0 {
		t.Error(got)
	}
}

// P13.2, P13.3: figures, grouped, and back.
func TestGrouped(t *testing.T) {
	for _, x := range []struct {
		l      string
		g1, g2 int
		want   string
	}{
		{"1234567", 3, 2, "12,34,567"}, {"1234567", 3, 3, "1,234,567"}, {"123456", 3, 3, "123,456"}, {"123", 3, 3, "123"}, {"1234", 3, 3, "1,234"}, {"12", 3, 3, "12"},
		{"1234", 0, 0, "1234"}, {"1234", 0, 3, "1234"}, {"1234", 1, 1, "1,2,3,4"}, {"1234", 1, 2, "1,23,4"}, {"12345", 1, 2, "12,34,5"}, {"12345", 2, 1, "1,2,3,45"}, {"1234567", 2, 3, "12,345,67"}, {"12345", 2, 3, "123,45"}, {"1234567", 2, 4, "1,2345,67"},
		{"12345", 4, 40, "1,2345"}, {"12345", 40, 1, "12345"}, {"", 3, 3, ""}, {"0", 1, 1, "0"}, {"00", 1, 1, "0,0"}, {"0001234", 3, 2, "00,01,234"},
		{strings.Repeat("1", 41), 40, 40, "1," + strings.Repeat("1", 40)}, {strings.Repeat("1", 81), 40, 40, "1," + strings.Repeat("1", 40) + "," + strings.Repeat("1", 40)},
	} {
		if got := string(sym.Grouped(latin, row(x.l), x.g1, x.g2)); got != x.want {
			t.Error(x, got)
		}
		if l, at, e := sym.Ungrouped(latin, []rune(x.want), x.g1, x.g2); e != api.OK || at != 0 || !slices.Equal(l, row(x.l)) {
			t.Error(x, l, at, e)
		}
	}
	if got := sym.Grouped(deva, row("1234567"), 3, 2); !slices.Equal(got, []rune{0x967, 0x968, 0xA0, 0x969, 0x96A, 0xA0, 0x96B, 0x96C, 0x96D}) {
		t.Error(got)
	}
	for n := range 90 {
		l := bytesOf(n)
		for _, g := range [][2]int{{0, 0}, {1, 1}, {3, 2}, {3, 3}, {2, 3}, {4, 4}, {40, 1}} {
			w := sym.Grouped(deva, l, g[0], g[1])
			if back, at, e := sym.Ungrouped(deva, w, g[0], g[1]); e != api.OK || at != 0 || !slices.Equal(back, l) {
				t.Error(n, g, back, at, e)
			}
		}
	}
}

func bytesOf(n int) []byte {
	var out []byte
	for i := range n {
		out = append(out, byte(i*7%10))
	}
	return out
}

// P13.2: what isn't grouped so.
func TestUngroupedFaults(t *testing.T) {
	for _, x := range []struct {
		l      string
		g1, g2 int
		at     int
	}{
		{"a", 3, 3, 0}, {"1a", 3, 3, 1}, {"1,23a4", 3, 3, 4}, {"12.5", 3, 3, 2}, {"-1", 3, 3, 0}, {"1 234", 3, 3, 1}, {"१", 3, 3, 0}, {"1,,2x", 3, 3, 4}, {",x", 3, 3, 1}, {"1E5", 0, 0, 1},
		{"1234", 3, 3, 4}, {"1,23", 3, 3, 4}, {"12,34", 3, 3, 5}, {",123", 3, 3, 4}, {"123,", 3, 3, 4}, {"1,,234", 3, 3, 6}, {",", 3, 3, 1}, {",,", 0, 0, 2}, {"1,234", 0, 0, 5}, {"1,234,567", 3, 2, 9}, {"12,34,567", 3, 3, 9}, {"1,2345", 3, 3, 6},
		{"1,234567", 3, 3, 8}, {"1234,567", 3, 3, 8},
	} {
		if l, at, e := sym.Ungrouped(latin, []rune(x.l), x.g1, x.g2); e != api.ErrBack || at != x.at || len(l) != 0 {
			t.Error(x, l, at, e)
		}
	}
}

// P13.1, P13.3: which rows may stand beside a number.
func TestCalm(t *testing.T) {
	for _, x := range []struct {
		l    []rune
		calm bool
	}{
		{nil, true}, {[]rune("abc é€"), true}, {[]rune("-+%"), true}, {[]rune{0x2066, 'a', 0x2069}, true}, {[]rune{0x200E, 0x61C}, true}, {[]rune{0xA0, 0x3000}, true}, {[]rune{'e'}, true},
		{[]rune("a."), false}, {[]rune(",a"), false}, {[]rune("aEa"), false}, {[]rune("a5"), false}, {[]rune{0x660}, false}, {[]rune{0xFF19, 'a'}, false}, {[]rune{'a', 0x1D7D7}, false},
		{[]rune{'a', 10}, false}, {[]rune{0xFFFE}, false}, {[]rune{0xD800}, false}, {[]rune{-1}, false}, {[]rune{0x202A}, false}, {[]rune{0x2066}, false}, {[]rune{0x2069, 0x2066}, false}, {[]rune{'a', 0x202E}, false},
	} {
		if sym.Calm(latin, x.l) != x.calm {
			t.Errorf("%x", x.l)
		}
	}
	if !sym.Calm(deva, []rune(".E")) || sym.Calm(deva, []rune(",")) || sym.Calm(deva, []rune{0xA0}) || sym.Calm(deva, []rune{0xD7}) || sym.Calm(deva, []rune("5")) {
		t.Error("other signs")
	}
	for r := range rune(0x3000) {
		if sym.Calm(latin, []rune{r}) && (sym.InNumber(latin, r) || class.Of(r) == api.Digit) {
			t.Errorf("%x", r)
		}
	}
}

// R3: what is handed in stays as it was.
func TestUntouched(t *testing.T) {
	l, g := row("1234567"), []rune("1,234,567")
	sym.Grouped(latin, l, 3, 3)
	sym.Digits(latin, l)
	sym.Ungrouped(latin, g, 3, 3)
	if !slices.Equal(l, row("1234567")) || string(g) != "1,234,567" {
		t.Error(l, g)
	}
}
