package utf_test

import (
	"testing"
	"unicode/utf8"

	"exergue/api"
	"exergue/utf"
)

// edges are numbers around each place where runes or their sizes begin or end.
var edges = map[rune]int{
	-1 << 31: 0, -1: 0, 0: 1, 65: 1, 127: 1, 128: 2, 233: 2, 2047: 2, 2048: 3, 0x20AC: 3,
	0xD7FF: 3, 0xD800: 0, 0xDABC: 0, 0xDFFF: 0, 0xE000: 3, 0xFFFD: 3, 0xFFFF: 3,
	0x10000: 4, 0x1F600: 4, 0x10FFFF: 4, 0x110000: 0, 0x200000: 0, 1<<31 - 1: 0,
}

// P1.1: which numbers are runes, and how many bytes they have.
func TestIsAndSize(t *testing.T) {
	for r, n := range edges {
		if utf.Is(r) != (n > 0) || utf.Size(r) != n {
			t.Errorf("%x: %v, %d", r, utf.Is(r), utf.Size(r))
		}
	}
	for r := rune(-10); r < 0x111000; r++ {
		if utf.Is(r) != utf8.ValidRune(r) {
			t.Fatalf("%x: %v", r, utf.Is(r))
		}
		if n := utf8.RuneLen(r); utf.Is(r) && utf.Size(r) != n {
			t.Fatalf("%x: %d, not %d", r, utf.Size(r), n)
		}
	}
}

// P1.1: the same runes, in the same order.
func TestSame(t *testing.T) {
	for _, x := range []struct {
		a, b []rune
		same bool
	}{
		{nil, nil, true}, {nil, []rune{}, true}, {nil, []rune{0}, false},
		{[]rune{1, 2}, []rune{1, 2}, true}, {[]rune{1, 2}, []rune{2, 1}, false},
		{[]rune{1, 2}, []rune{1}, false}, {[]rune{1}, []rune{1, 2}, false},
		{[]rune{1, 2}, []rune{1, 3}, false}, {[]rune{-5}, []rune{-5}, true},
	} {
		if utf.Same(x.a, x.b) != x.same {
			t.Error(x)
		}
	}
}

// P1.2: each rune's bytes.
func TestEncode(t *testing.T) {
	for r := rune(0); r < 0x110000; r++ {
		b, e := utf.Encode([]rune{r})
		if !utf8.ValidRune(r) {
			if e != api.ErrUtf || len(b) != 0 {
				t.Fatalf("%x: %v, %d", r, b, e)
			}
			continue
		}
		if e != api.OK || string(b) != string(r) {
			t.Fatalf("%x: %v, %d", r, b, e)
		}
	}
	for _, s := range []string{"", "a", "é", "aé€😀\x00z", "😀😀", "\U0010ffff\ue000"} {
		if b, e := utf.Encode([]rune(s)); e != api.OK || string(b) != s {
			t.Errorf("%q: %v, %d", s, b, e)
		}
	}
	for _, l := range [][]rune{{-1}, {0xD800}, {97, 0xDFFF, 98}, {97, 0x110000}, {0x7fffffff, 97}} {
		if b, e := utf.Encode(l); e != api.ErrUtf || len(b) != 0 {
			t.Errorf("%v: %v, %d", l, b, e)
		}
	}
}

// P1.2: bytes of no rune, and the first place at which they begin.
func TestDecodeFaults(t *testing.T) {
	for s, at := range map[string]int{
		"\x80": 0, "a\x80": 1, "\xbf": 0, "\xc3": 0, "é\xc3": 2, "a\xc3a": 1, "\xc3\xc3\xa9": 0,
		"\xc0\x80": 0, "a\xc0\xaf": 1, "\xc1\xbf": 0,
		"\xe0\x80\x80": 0, "ab\xe0\x9f\xbf": 2, "\xe2\x82": 0, "\xe2\x82a": 0, "\xe2a\x80": 0,
		"\xed\xa0\x80": 0, "€\xed\xbf\xbf": 3,
		"\xf0\x8f\xbf\xbf": 0, "\xf0\x9f\x98": 0, "\xf0\x9f\x98a": 0, "\xf4\x90\x80\x80": 0, "a\xf5\x80\x80\x80": 1,
		"\xf8\x88\x80\x80\x80": 0, "😀\xfc": 4, "\xfe": 0, "\xff": 0, "a\xffb\xff": 1,
	} {
		if l, p, e := utf.Decode([]byte(s)); e != api.ErrUtf || p != at || len(l) != 0 {
			t.Errorf("%q: %v, %d, %d", s, l, p, e)
		}
	}
}

// P1.2, P1.3: all rows of two bytes, and of more that are next to an edge, are read as they should be, and only so.
func TestDecodeStrictly(t *testing.T) {
	near := []byte{0, 0x41, 0x7F, 0x80, 0x8F, 0x90, 0x9F, 0xA0, 0xBF, 0xC0, 0xC1, 0xC2, 0xDF, 0xE0, 0xEC, 0xED, 0xEF, 0xF0, 0xF3, 0xF4, 0xF5, 0xF7, 0xF8, 0xFF}
	for i := range 1 << 16 {
		check(t, []byte{byte(i >> 8), byte(i)})
	}
	for _, a := range near {
		for _, b := range near {
			for _, c := range near {
				check(t, []byte{a, b, c})
				for _, d := range near {
					check(t, []byte{a, b, c, d})
				}
			}
		}
	}
}

func check(t *testing.T, b []byte) {
	t.Helper()
	l, at, e := utf.Decode(b)
	for i := 0; i < len(b); {
		r, n := utf8.DecodeRune(b[i:])
		if r == utf8.RuneError && n == 1 {
			if e != api.ErrUtf || at != i || len(l) != 0 {
				t.Fatalf("%x: %v, %d, %d", b, l, at, e)
			}
			return
		}
		i += n
	}
	if e != api.OK || at != 0 || string(l) != string(b) {
		t.Fatalf("%x: %v, %d, %d", b, l, at, e)
	}
	if back, e := utf.Encode(l); e != api.OK || string(back) != string(b) {
		t.Fatalf("%x: %x, %d", b, back, e)
	}
}

// P1.3: what Encode tells Decode tells back.
func TestBack(t *testing.T) {
	var l []rune
	for r, n := range edges {
		if n > 0 {
			l = append(l, r, r)
		}
	}
	b, e := utf.Encode(l)
	if e != api.OK {
		t.Fatal(e)
	}
	back, at, e := utf.Decode(b)
	if e != api.OK || at != 0 || !utf.Same(back, l) {
		t.Error(back, at, e)
	}
	if l, at, e := utf.Decode(nil); len(l) != 0 || at != 0 || e != api.OK {
		t.Error(l, at, e)
	}
}

// R3: what is handed in stays as it was.
func TestUntouched(t *testing.T) {
	l, b := []rune{97, 233, 0x20AC}, []byte("aé€")
	utf.Encode(l)
	utf.Decode(b)
	if string(l) != "aé€" || string(b) != "aé€" {
		t.Error(l, b)
	}
}
