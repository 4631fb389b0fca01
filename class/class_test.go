package class_test

import (
	"testing"

	"exergue/api"
	"exergue/class"
)

var noughts = []rune{0x30, 0x660, 0x6F0, 0x7C0, 0x966, 0x9E6, 0xA66, 0xAE6, 0xB66, 0xBE6, 0xC66, 0xCE6, 0xD66, 0xE50, 0xED0, 0xF20, 0x17E0, 0x1810, 0xFF10, 0x1D7CE}

// known is each number's class, told once more, one number after the other.
func known(r rune) int {
	in := func(l ...rune) bool {
		for i := 0; i < len(l); i += 2 {
			if l[i] <= r && r <= l[i+1] {
				return true
			}
		}
		return false
	}
	switch {
	case r < 0 || r > 0x10FFFF || in(0xD800, 0xDFFF):
		return api.None
	case in(0, 0x1F, 0x7F, 0x9F):
		return api.Control
	case in(0x61C, 0x61C, 0x200E, 0x200F, 0x202A, 0x202E, 0x2066, 0x2069):
		return api.Bidi
	case in(0xFDD0, 0xFDEF) || r%0x10000 >= 0xFFFE:
		return api.Nonchar
	case in(0x20, 0x20, 0xA0, 0xA0, 0x1680, 0x1680, 0x2000, 0x200A, 0x2028, 0x2029, 0x202F, 0x202F, 0x205F, 0x205F, 0x3000, 0x3000):
		return api.Space
	}
	for _, z := range noughts {
		if in(z, z+9) {
			return api.Digit
		}
	}
	return api.Plain
}

// P2.1, P2.3: each number has its class, each digit its worth.
func TestOfAndValue(t *testing.T) {
	look := func(r rune) {
		k := known(r)
		if c := class.Of(r); c != k {
			t.Errorf("%x: %d, not %d", r, c, k)
		}
		n, ok := class.Value(r)
		if ok != (k == api.Digit) || !ok && n != 0 {
			t.Errorf("%x: %d, %v", r, n, ok)
		}
		if class.Zero(r) != (ok && n == 0) {
			t.Errorf("%x: %v", r, class.Zero(r))
		}
		if got := class.Calm([]rune{65, r, 48}); got != (k == api.Plain || k == api.Space || k == api.Digit || k == api.Bidi) {
			t.Errorf("%x: %v", r, got)
		}
	}
	for r := rune(-3); r < 0x10FF; r++ {
		look(r)
	}
	for r := rune(0x1600); r < 0x3010; r++ {
		look(r)
	}
	for _, z := range []rune{0xD800, 0xDFFF, 0xFDD0, 0xFDEF, 0xFEFF, 0xFF10, 0xFFFF, 0x1D7CE, 0x1D7D8} {
		for r := z - 20; r <= z+20; r++ {
			look(r)
		}
	}
	for plane := rune(1); plane <= 0x11; plane++ {
		for r := plane<<16 - 4; r < plane<<16+4; r++ {
			look(r)
		}
	}
	look(-1 << 31)
	look(1<<31 - 1)
}

// P2.1, P2.3: a block's ten are worth 0 to 9, in order, and just its first one is a nought.
func TestBlocks(t *testing.T) {
	for _, z := range noughts {
		for i := range 10 {
			n, ok := class.Value(z + rune(i))
			if n != i || !ok || class.Zero(z+rune(i)) != (i == 0) || class.Of(z+rune(i)) != api.Digit {
				t.Errorf("%x, %d: %d, %v", z, i, n, ok)
			}
		}
	}
	for _, r := range []rune{0x2F, 0x3A, 0x65F, 0x66A, 0x7CA, 0xFF0F, 0xFF1A, 0x1D7CD, 0x1D7D8, 0x1D7E2, 0xB2, 0x2460} {
		if n, ok := class.Value(r); n != 0 || ok || class.Zero(r) {
			t.Errorf("%x: %d, %v", r, n, ok)
		}
	}
}

// P2.2: a row is calm, if each of it is.
func TestCalm(t *testing.T) {
	for _, x := range []struct {
		l    []rune
		calm bool
	}{
		{nil, true}, {[]rune("a 1é€"), true}, {[]rune{0x202A, 0x2069, 0x200E}, true},
		{[]rune{9}, false}, {[]rune{65, 66, 10}, false}, {[]rune{0x85, 65}, false},
		{[]rune{65, 0xFFFE}, false}, {[]rune{0xFDD0, 65}, false}, {[]rune{65, 0xD800, 65}, false}, {[]rune{-1}, false},
		{[]rune{0x110000}, false},
	} {
		if class.Calm(x.l) != x.calm {
			t.Errorf("%x", x.l)
		}
	}
}

// rows are rows of runes, and whether they turn well.
var rows = []struct {
	l    []rune
	well bool
}{
	{nil, true}, {[]rune("abc"), true}, {[]rune{0x200E, 0x200F, 0x61C}, true},
	{[]rune{0x2066, 0x2069}, true}, {[]rune{0x2067, 65, 0x2069}, true}, {[]rune{0x2068, 0x2069, 65}, true},
	{[]rune{0x2066, 0x2067, 0x2069, 0x2069}, true}, {[]rune{0x2066, 0x2069, 0x2067, 0x2069}, true},
	{[]rune{0x2069}, false}, {[]rune{0x2069, 0x2066}, false}, {[]rune{0x2066}, false},
	{[]rune{0x2066, 0x2066, 0x2069}, false}, {[]rune{0x2066, 0x2069, 0x2069}, false},
	{[]rune{0x2066, 0x2069, 0x2069, 0x2066}, false},
	{[]rune{0x202A}, false}, {[]rune{0x202B, 65}, false}, {[]rune{0x202C}, false}, {[]rune{65, 0x202D}, false},
	{[]rune{0x202E}, false}, {[]rune{0x202A, 0x202C}, false}, {[]rune{0x2066, 0x202C, 0x2069}, false},
	{[]rune{0x2029, 0x202F, 0x2065, 0x206A}, true}, {[]rune{-1, 0xD800, 9}, true},
}

// P2.2: which rows turn well.
func TestTurns(t *testing.T) {
	for _, x := range rows {
		if class.Turns(x.l) != x.well {
			t.Errorf("%x", x.l)
		}
	}
}

// P2.3: a row that turns well, behind another one that does, does, too.
func TestTurnsTogether(t *testing.T) {
	for _, a := range rows {
		for _, b := range rows {
			both := append(append([]rune{}, a.l...), b.l...)
			if a.well && b.well && !class.Turns(both) {
				t.Errorf("%x", both)
			}
		}
	}
}
