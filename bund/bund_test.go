package bund_test

import (
	"bytes"
	"encoding/binary"
	"hash/crc32"
	"slices"
	"strconv"
	"strings"
	"testing"

	"exergue/api"
	"exergue/bund"
	"exergue/loc"
	"exergue/samples"
)

// P16.1: a locale's texts, in order.
func TestTexts(t *testing.T) {
	l := api.Locale{
		Tag: "t", Pats: [4]string{"a", "b", "c", "d"}, Rules: []api.Rule{{Cat: 1, Text: "r"}, {Cat: 2, Text: "s"}},
		Curs: []api.Cur{{Code: "C", Sign: "x", Digits: 1}, {Code: "D", Sign: "a"}}, Comps: []api.Comp{{Mag: 1, Cat: 2, Pat: "p"}, {Pat: "t"}},
	}
	if got := bund.Texts(l); !slices.Equal(got, strings.Fields("t a b c d r s C x D a p t")) {
		t.Error(got)
	}
	if got := bund.Texts(api.Locale{}); !slices.Equal(got, []string{"", "", "", "", ""}) {
		t.Error(got)
	}
}

// model is a locale's bundle, written once more.
func model(l api.Locale) []byte {
	var pool []string
	n := func(b []byte, size, n int) []byte {
		for i := size - 1; i >= 0; i-- {
			b = append(b, byte(n>>(8*i)))
		}
		return b
	}
	ref := func(b []byte, s string) []byte {
		return n(b, 2, slices.Index(pool, s))
	}
	for _, s := range bund.Texts(l) {
		if !slices.Contains(pool, s) {
			pool = append(pool, s)
		}
	}
	var parts [6][]byte
	parts[0] = n(nil, 2, len(pool))
	for _, s := range pool {
		parts[0] = append(n(parts[0], 2, len(s)), s...)
	}
	parts[1] = ref(nil, l.Tag)
	for _, r := range []rune{l.S.Zero, l.S.Dec, l.S.Group, l.S.Minus, l.S.Plus, l.S.Percent, l.S.Exp} {
		parts[1] = n(parts[1], 4, int(r))
	}
	for _, s := range l.Pats {
		parts[2] = ref(parts[2], s)
	}
	parts[3] = n(nil, 2, len(l.Rules))
	for _, r := range l.Rules {
		parts[3] = ref(n(parts[3], 1, r.Cat), r.Text)
	}
	parts[4] = n(nil, 2, len(l.Curs))
	for _, c := range l.Curs {
		parts[4] = n(ref(ref(parts[4], c.Code), c.Sign), 1, c.Digits)
	}
	parts[5] = n(nil, 2, len(l.Comps))
	for _, c := range l.Comps {
		parts[5] = ref(n(n(parts[5], 1, c.Mag), 1, c.Cat), c.Pat)
	}
	out := []byte("EXLB\x00\x01\x00\x06")
	at := 56
	for _, p := range parts {
		out = n(n(out, 4, at), 4, len(p))
		at += len(p)
	}
	return sealed(append(out, bytes.Join(parts[:], nil)...))
}

// sealed is bytes with their checksum.
func sealed(b []byte) []byte {
	return binary.LittleEndian.AppendUint32(bytes.Clone(b), crc32.ChecksumIEEE(b))
}

// some are locales of all kinds, good and not.
func some() []api.Locale {
	odd := api.Locale{
		Tag: "\xff\x00", S: api.Sym{Zero: 0, Dec: 1<<31 - 1, Group: 0xD800, Minus: 5, Plus: 5, Percent: 0x12345678, Exp: 9}, Pats: [4]string{"", "", "x", strings.Repeat("y", 400)},
		Rules: []api.Rule{{Cat: 0, Text: ""}, {Cat: 255, Text: "x"}}, Curs: []api.Cur{{Code: "", Sign: "", Digits: 255}, {Digits: 0}}, Comps: []api.Comp{{Mag: 255, Cat: 0, Pat: "x"}, {Mag: 0, Cat: 255}},
	}
	many := api.Locale{Rules: make([]api.Rule, 65535), Curs: make([]api.Cur, 65535), Comps: make([]api.Comp, 65535)}
	full := api.Locale{Tag: "0", Pats: [4]string{"0", "0", "0", "0"}}
	for i := range 500 {
		full.Comps = append(full.Comps, api.Comp{Pat: strconv.Itoa(i)})
	}
	return append(samples.All(), api.Locale{}, odd, many, full)
}

// P16.1, P16.2, P16.3: bundles, and back.
func TestBothWays(t *testing.T) {
	for i, l := range some() {
		b, e := bund.Encode(l)
		if e != api.OK || !bytes.Equal(b, model(l)) {
			t.Fatal(i, e)
		}
		back, e := bund.Decode(b)
		if e != api.OK || !loc.Same(back, l) {
			t.Fatal(i, e)
		}
	}
	b, _ := bund.Encode(samples.Latin())
	if !bytes.Equal(b[:12], []byte{69, 88, 76, 66, 0, 1, 0, 6, 0, 0, 0, 56}) {
		t.Error(b[:12])
	}
}

// P16.1: what has no bundle.
func TestNoBundle(t *testing.T) {
	for i, change := range []func(l *api.Locale){
		func(l *api.Locale) { l.Tag = strings.Repeat("x", 401) }, func(l *api.Locale) { l.Pats[3] = strings.Repeat("é", 201) }, func(l *api.Locale) { l.Curs[0].Sign = strings.Repeat("x", 500) },
		func(l *api.Locale) {
			for i := range 500 {
				l.Comps = append(l.Comps, api.Comp{Pat: strconv.Itoa(i)})
			}
		},
		func(l *api.Locale) { l.S.Zero = -1 }, func(l *api.Locale) { l.S.Dec = -1 }, func(l *api.Locale) { l.S.Group = -1 << 31 }, func(l *api.Locale) { l.S.Minus = -1 }, func(l *api.Locale) { l.S.Plus = -1 }, func(l *api.Locale) { l.S.Percent = -2 }, func(l *api.Locale) { l.S.Exp = -1 },
		func(l *api.Locale) { l.Rules[0].Cat = -1 }, func(l *api.Locale) { l.Rules[0].Cat = 256 }, func(l *api.Locale) { l.Rules[0].Cat = 1 << 32 }, func(l *api.Locale) { l.Curs[1].Digits = -1 }, func(l *api.Locale) { l.Curs[1].Digits = 256 }, func(l *api.Locale) { l.Curs[1].Digits = -1 << 63 },
		func(l *api.Locale) { l.Comps[1].Mag = -1 }, func(l *api.Locale) { l.Comps[1].Mag = 256 }, func(l *api.Locale) { l.Comps[1].Mag = 1<<32 + 4 }, func(l *api.Locale) { l.Comps[1].Cat = -1 }, func(l *api.Locale) { l.Comps[1].Cat = 256 }, func(l *api.Locale) { l.Comps[1].Cat = -1 << 32 },
		func(l *api.Locale) { l.Rules = make([]api.Rule, 65536) }, func(l *api.Locale) { l.Curs = make([]api.Cur, 65536) }, func(l *api.Locale) { l.Comps = make([]api.Comp, 65536) },
	} {
		l := samples.Latin()
		change(&l)
		if b, e := bund.Encode(l); e != api.ErrArg || len(b) != 0 {
			t.Error(i, len(b), e)
		}
	}
}

// refused tells whether bytes are refused, with an error.
func refused(t *testing.T, b []byte, want api.Errno) {
	t.Helper()
	if l, e := bund.Decode(b); e != want || !loc.Same(l, api.Locale{}) {
		t.Error(len(b), l.Tag, e)
	}
}

// P16.2: bytes without their checksum, or with a wrong one.
func TestChecksum(t *testing.T) {
	for _, b := range [][]byte{nil, {1}, {1, 2, 3}} {
		refused(t, b, api.ErrForm)
	}
	refused(t, []byte{1, 2, 3, 4}, api.ErrSum)
	refused(t, []byte{0, 0, 0, 0}, api.ErrForm)
	refused(t, sealed([]byte("EXLB")), api.ErrForm)
	b, _ := bund.Encode(samples.Latin())
	for i := range b {
		for _, x := range []byte{1, 128, 255} {
			c := bytes.Clone(b)
			c[i] ^= x
			refused(t, c, api.ErrSum)
		}
		if i > 3 {
			refused(t, b[:i], api.ErrSum)
		}
	}
	refused(t, append(bytes.Clone(b), 0), api.ErrSum)
}

// P16.2, P16.3: bytes with a right checksum: what can be read is written as it was, and nothing else can.
func TestSealed(t *testing.T) {
	whole, _ := bund.Encode(samples.Latin())
	inner := whole[:len(whole)-4]
	good := 0
	for i := range inner {
		for _, x := range []byte{1, 2, 128, 255} {
			c := bytes.Clone(inner)
			c[i] ^= x
			c = sealed(c)
			l, e := bund.Decode(c)
			if e == api.OK {
				good++
				if back, e := bund.Encode(l); e != api.OK || !bytes.Equal(back, c) || loc.Same(l, samples.Latin()) {
					t.Error(i, x)
				}
			} else if e != api.ErrForm || !loc.Same(l, api.Locale{}) {
				t.Error(i, x, e)
			}
			if i < 56 && e != api.ErrForm {
				t.Error("head", i, x, e)
			}
		}
		refused(t, sealed(inner[:i]), api.ErrForm)
		refused(t, sealed(append(bytes.Clone(inner[:i]), inner[i+1:]...)), api.ErrForm)
	}
	if good == 0 {
		t.Error("nothing else could be read")
	}
	refused(t, sealed(append(bytes.Clone(inner), 0)), api.ErrForm)
}

// P16.2: sections that lie otherwise, pools that are gathered otherwise, places and signs that aren't there.
func TestOtherwise(t *testing.T) {
	n := func(b []byte, at, size, n int) {
		for i := range size {
			b[at+i] = byte(n >> (8 * (size - 1 - i)))
		}
	}
	whole, _ := bund.Encode(api.Locale{Tag: "a", Pats: [4]string{"b", "b", "b", "b"}})
	inner := whole[:len(whole)-4]
	names := 56 + 2 + 6
	for i, change := range []func(b []byte) []byte{
		func(b []byte) []byte { n(b, names, 2, 2); return b },                       // a text that isn't there
		func(b []byte) []byte { n(b, names, 2, 1); return b },                       // one text is never told
		func(b []byte) []byte { n(b, names, 2, 1); n(b, names+30, 2, 0); return b }, // gathered in another order
		func(b []byte) []byte { n(b, names+2, 4, -1); return b },                    // no sign
		func(b []byte) []byte { b[names+6] = 128; return b },                        // no sign
		func(b []byte) []byte { b[61] = 'a'; b[63] = 'a'; return b },                // a text twice
		func(b []byte) []byte { n(b, 60, 4, 9); return b },                          // another length
		func(b []byte) []byte { n(b, 8, 4, 57); return b },                          // another beginning
		func(b []byte) []byte { b[5] = 2; return b },                                // another version
		func(b []byte) []byte { b[7] = 5; return b },                                // another number of sections
		func(b []byte) []byte { b[0] = 'e'; return b },                              // another mark
		func(b []byte) []byte { n(b, 52, 4, 3); return append(b, 0) },               // a longer last section
		func(b []byte) []byte { n(b, len(b)-2, 2, 1); return b },                    // a compact pattern that isn't there
		func(b []byte) []byte { n(b, len(b)-6, 2, 65535); return b },                // many rules that aren't there
		func(b []byte) []byte {
			return append(b[:56:56], append([]byte{0, 2, 0, 1, 'a', 0, 2, 'b', 'c'}, b[64:]...)...)
		}, // a longer pool
	} {
		b := sealed(change(bytes.Clone(inner)))
		if l, e := bund.Decode(b); e != api.ErrForm || !loc.Same(l, api.Locale{}) {
			t.Error(i, e)
		}
	}
	if l, e := bund.Decode(sealed(inner)); e != api.OK || l.Tag != "a" {
		t.Error(l, e)
	}
}

// R3: what is handed in stays as it was.
func TestUntouched(t *testing.T) {
	l := samples.Latin()
	b, _ := bund.Encode(l)
	c := bytes.Clone(b)
	bund.Texts(l)[0] = "x"
	back, _ := bund.Decode(b)
	for i := range b {
		b[i]++
	}
	if !loc.Same(l, samples.Latin()) || !loc.Same(back, l) {
		t.Error(l, back)
	}
	if d, _ := bund.Encode(l); !bytes.Equal(c, d) {
		t.Error("another one")
	}
}
