package cert_test

import (
	"bytes"
	"slices"
	"strings"
	"testing"

	"exergue/affix"
	"exergue/api"
	"exergue/bund"
	"exergue/cert"
	"exergue/dec"
	"exergue/loc"
	"exergue/pat"
	"exergue/render"
	"exergue/samples"
	"exergue/tank"
)

func read(t *testing.T, s string) api.Dec {
	t.Helper()
	d, at, e := dec.Read(s)
	if e != api.OK {
		t.Fatalf("%.30q: %d", s, at)
	}
	return d
}

// P20.1: each good locale's bundle is certified.
func TestLoad(t *testing.T) {
	for _, l := range samples.All() {
		b, e := bund.Encode(l)
		if e != api.OK {
			t.Fatal(l.Tag)
		}
		c, part, at, e := cert.Load(b)
		if e != api.OK || part != 0 || at != 0 || !cert.Same(c, cert.Of(l)) || !loc.Same(c.L, l) {
			t.Error(l.Tag, part, at, e)
		}
	}
}

// P20.1: what isn't certified, and why.
func TestRefused(t *testing.T) {
	for i, x := range []struct {
		change   func(l *api.Locale)
		part, at int
	}{
		{func(l *api.Locale) { l.Tag = "" }, 1, 0}, {func(l *api.Locale) { l.S.Dec = l.S.Exp }, 2, 0}, {func(l *api.Locale) { l.Pats[2] = "0" }, 3, 2}, {func(l *api.Locale) { l.Rules = append(l.Rules, api.Rule{Cat: 5, Text: "x"}) }, 4, 1}, {func(l *api.Locale) { l.Curs[2].Digits = 5 }, 5, 2}, {func(l *api.Locale) { l.Comps[3].Pat = "0" }, 6, 3}, {func(l *api.Locale) { l.Comps[6].Pat = "00 thousands" }, 7, 6},
	} {
		l := samples.Latin()
		x.change(&l)
		b, _ := bund.Encode(l)
		if c, part, at, e := cert.Load(b); e != api.ErrBad || part != x.part || at != x.at || !cert.Same(c, api.Cert{}) {
			t.Error(i, part, at, e)
		}
	}
	good, _ := bund.Encode(samples.Latin())
	for at := range good {
		for _, bit := range []byte{1, 16, 128} {
			b := bytes.Clone(good)
			b[at] ^= bit
			if c, p, q, e := cert.Load(b); e != api.ErrSum || p != 0 || q != 0 || !cert.Same(c, api.Cert{}) {
				t.Error(at, p, q, e)
			}
		}
	}
	for _, b := range [][]byte{nil, {1, 2, 3}, {0, 0, 0, 0}} {
		if c, p, q, e := cert.Load(b); e != api.ErrForm || p != 0 || q != 0 || !cert.Same(c, api.Cert{}) {
			t.Error(b, p, q, e)
		}
	}
	if c, p, q, e := cert.Load(good[1:]); e != api.ErrSum || p != 0 || q != 0 || !cert.Same(c, api.Cert{}) {
		t.Error(p, q, e)
	}
}

// P20.1: how many runes stand around, and how wide it is.
func TestOf(t *testing.T) {
	for tag, want := range map[string][2][5]int{
		"en-GB":   {{1, 2, 1, 5, 11}, {}},
		"hi":      {{1, 2, 1, 7, 3}, {}},
		"ar":      {{2, 4, 1, 9, 4}, {}},
		"x-Pad-1": {{1, 3, 5, 7 + 19, 2}, {5, 5, 13, 18, 0}},
		"z":       {{1, 2, 1, 1, 1}, {}},
	} {
		for _, l := range samples.All() {
			if c := cert.Of(l); l.Tag == tag && (c.Around != want[0] || c.Wide != want[1] || !loc.Same(c.L, l)) {
				t.Error(tag, c.Around, c.Wide)
			}
		}
	}
}

// P20.1: each sign's is looked at.
func TestOfSigns(t *testing.T) {
	for text, most := range map[string]int{"0": 1, "abc0;x0": 4, "abc0;xxxxxxx0": 7, "abc0d;-0": 4, "0;-(0)": 3, "ab0cd;x-0": 4} {
		l := samples.Latin()
		l.Pats[0], l.Comps = text, nil
		if c := cert.Of(l); c.Around[0] != most || c.Around[4] != most {
			t.Error(text, c.Around)
		}
	}
}

// P20.1: it is the most of all that may stand around, told once more.
func TestOfModel(t *testing.T) {
	for _, l := range samples.All() {
		c := cert.Of(l)
		for style := range 5 {
			p, _ := loc.Pattern(l.S, style%4, l.Pats[style%4])
			pats, curs := []api.Pat{p}, []string{""}
			for _, x := range l.Curs {
				if style == api.Currency {
					curs = append(curs, x.Sign)
				}
			}
			for _, x := range l.Comps {
				if s, _ := loc.Short(l.S, x); style == api.Compact {
					pats = append(pats, s)
				}
			}
			var all []int
			for _, p := range pats {
				for sign := range 3 {
					for _, cur := range curs {
						a := affix.Of(p, l.S, sign, []rune(cur))
						all = append(all, len(a.Pre)+len(a.Suf))
					}
				}
			}
			wide := 0
			if p.PadAt != 0 && style != api.Compact {
				wide = pat.Width(p)
			}
			if c.Around[style] != slices.Max(all) || c.Wide[style] != wide {
				t.Error(l.Tag, style, c.Around, c.Wide)
			}
		}
	}
}

// P20.2: bounds.
func TestBoundAndSteps(t *testing.T) {
	c := api.Cert{Around: [5]int{1, 2, 3, 4, 5}, Wide: [5]int{0, 0, 500, 0, 0}}
	for _, x := range []struct {
		q           api.Req
		n, e, bound int
	}{
		{api.Req{}, 0, 0, 131}, {api.Req{Style: 1}, 0, 0, 132}, {api.Req{Style: 4}, 1, 0, 137}, {api.Req{Style: 3}, 0, 1, 137}, {api.Req{}, 10, 100, 451}, {api.Req{}, 2000, 2000, 10131}, {api.Req{Sign: []rune("€€")}, 0, 0, 133}, {api.Req{Style: 3, Sign: []rune("abc")}, 5, 7, 168},
		{api.Req{Style: 2}, 0, 0, 500}, {api.Req{Style: 2}, 100, 57, 504}, {api.Req{Style: 2, Html: true}, 0, 0, 3000}, {api.Req{Html: true}, 1, 1, 816}, {api.Req{Style: 2, Sign: []rune("abcd")}, 100, 54, 500}, {api.Req{Style: 2, Sign: []rune("abcd")}, 100, 55, 502}, {api.Req{Plus: true, Bidi: true, Mode: 5, Code: "USD"}, 0, 0, 131},
	} {
		if got := cert.Bound(c, x.q, x.n, x.e); got != x.bound {
			t.Error(x, got)
		}
		if got := cert.Steps(c, x.q, x.n, x.e); got != x.bound+x.n+1 {
			t.Error(x, got)
		}
	}
}

var numbers = []string{"0e0", "-0e0", "1e0", "-15e-1", "12345e-1", "-1234567e3", "123456789e-9", "1e30", "7e-30", "9999999999e0", "123456789012345678901234567890123e0", "1e900", "-1e-1000", "12345678e900", strings.Repeat("7", 1000) + "e-500", strings.Repeat("9", 1000) + "e-1000", "-" + strings.Repeat("98", 500) + "e-999"}

// all goes through requests and numbers of all samples.
func all(t *testing.T, do func(c api.Cert, q api.Req, d api.Dec)) {
	for _, l := range samples.All() {
		c := cert.Of(l)
		for style := range 5 {
			codes := []string{""}
			for _, cur := range l.Curs {
				codes = append(codes, cur.Code)
			}
			for _, code := range codes {
				if (style == api.Currency) != (code != "") {
					continue
				}
				for i := range 4 {
					q := api.Req{Style: style, Code: code, Mode: i * 2, Plus: i&1 != 0, Html: i&2 != 0, Bidi: true}
					if i == 3 && style == api.Currency {
						q.Sign = []rune("<'\u2066\u2069&'>")
						q.Sign = slices.DeleteFunc(q.Sign, func(r rune) bool { return r == l.S.Group })
					}
					for _, n := range numbers {
						do(c, q, read(t, n))
					}
				}
			}
		}
	}
}

// P20.3: what is written is counted.
func TestRun(t *testing.T) {
	c := cert.Of(samples.Latin())
	d := read(t, "12345e-1")
	for _, x := range []struct {
		q          api.Req
		fuel, room int
		left       api.Tank
		e          api.Errno
	}{
		{api.Req{}, 13, 7, api.Tank{Out: []rune("1,234.5")}, api.OK}, {api.Req{}, 20, 10, api.Tank{Fuel: 7, Room: 3, Out: []rune("1,234.5")}, api.OK}, {api.Req{}, 12, 10, api.Tank{Room: 4, Out: []rune("1,234.")}, api.ErrFuel}, {api.Req{}, 20, 6, api.Tank{Fuel: 7, Out: []rune("1,234.")}, api.ErrRoom}, {api.Req{}, 6, 9, api.Tank{Room: 9}, api.ErrFuel}, {api.Req{}, 5, 9, api.Tank{Room: 9}, api.ErrFuel}, {api.Req{}, 0, 0, api.Tank{}, api.ErrFuel}, {api.Req{}, 7, 0, api.Tank{}, api.ErrRoom}, {api.Req{}, 9, 0, api.Tank{Fuel: 2}, api.ErrRoom},
		{api.Req{}, -1, 5, api.Tank{}, api.ErrArg}, {api.Req{}, 5, -1, api.Tank{}, api.ErrArg}, {api.Req{Style: 9}, -1, 5, api.Tank{}, api.ErrArg}, {api.Req{Style: 9}, 3, 5, api.Tank{Fuel: 3, Room: 5}, api.ErrReq}, {api.Req{Mode: 8}, 0, 0, api.Tank{}, api.ErrReq},
		{api.Req{Style: 3, Code: "USD", Html: true, Sign: []rune("<")}, 99, 99, api.Tank{Fuel: 81, Room: 87, Out: []rune("&lt;1,234.50")}, api.OK},
	} {
		if got, e := cert.Run(c, x.q, d, x.fuel, x.room); e != x.e || !tank.Same(got, x.left) {
			t.Error(x, got, e)
		}
	}
	if got, e := cert.Run(c, api.Req{Style: api.Percent}, read(t, "1e1000"), 5, 6); e != api.ErrFull || !tank.Same(got, api.Tank{Fuel: 5, Room: 6}) {
		t.Error(got, e)
	}
}

// P20.5: what is written stays within its bound, and lacks nothing.
func TestWithin(t *testing.T) {
	all(t, func(c api.Cert, q api.Req, d api.Dec) {
		n, e := len(d.D), max(d.E, -d.E)
		bound, steps := cert.Bound(c, q, n, e), cert.Steps(c, q, n, e)
		out, err := render.Format(c.L, q, d)
		got, e1 := cert.Run(c, q, d, steps, bound)
		if err != e1 || err == api.OK && (len(out) > bound || !slices.Equal(got.Out, out) || got.Room != bound-len(out) || got.Fuel != steps-len(out)-n-1) {
			t.Errorf("%s, %v, %.30s: %d of %d, %d", c.L.Tag, q, dec.Text(d), len(out), bound, e1)
		}
	})
}

// P20.4, P20.5: bytes, and back.
func TestBytesAndRead(t *testing.T) {
	all(t, func(c api.Cert, q api.Req, d api.Dec) {
		out, err := render.Format(c.L, q, d)
		b, e := cert.Bytes(c, q, d)
		if e != err || string(b) != string(out) {
			t.Errorf("%s, %v, %.30s: %d, %d", c.L.Tag, q, dec.Text(d), err, e)
		}
		if err != api.OK {
			return
		}
		r, _ := render.Round(c.L, q, d)
		if got, at, e := cert.Read(c, q, b); e != api.OK || at != 0 || !dec.Same(got, r) {
			t.Errorf("%s, %v, %.30s: %q: %v, %d", c.L.Tag, q, dec.Text(d), b, got, e)
		}
	})
}

// P20.4: errors.
func TestBytesFaults(t *testing.T) {
	c := cert.Of(samples.Latin())
	for _, x := range []struct {
		q api.Req
		d string
		e api.Errno
	}{{api.Req{Style: 5}, "1e0", api.ErrReq}, {api.Req{Style: 1}, "1e1000", api.ErrFull}, {api.Req{Style: 3, Code: "USD", Sign: []rune{0xD800}}, "1e0", api.ErrReq}, {api.Req{Style: 2}, "12345678901e997", api.ErrArg}} {
		if b, e := cert.Bytes(c, x.q, read(t, x.d)); e != x.e || len(b) != 0 {
			t.Error(x, b, e)
		}
	}
	for _, x := range []struct {
		q  api.Req
		b  string
		at int
		e  api.Errno
	}{
		{api.Req{}, "\xff", 0, api.ErrUtf}, {api.Req{}, "12\xc0\x80", 2, api.ErrUtf}, {api.Req{}, "é€\xe2\x82", 5, api.ErrUtf}, {api.Req{Style: 9}, "é\xff", 2, api.ErrUtf}, {api.Req{Style: 9}, "é", 0, api.ErrReq}, {api.Req{}, "é", 0, api.ErrBack}, {api.Req{}, "01", 0, api.ErrBack}, {api.Req{Html: true}, "éé<", 2, api.ErrBack}, {api.Req{Html: true, Style: 3, Code: "GBP"}, "éé<", 0, api.ErrReq},
	} {
		if d, at, e := cert.Read(c, x.q, []byte(x.b)); e != x.e || at != x.at || !dec.Same(d, api.Dec{}) {
			t.Error(x, d, at, e)
		}
	}
}

// P20.1: all of two is held against each other.
func TestSame(t *testing.T) {
	for i, change := range []func(c *api.Cert){
		func(c *api.Cert) { c.L.Tag = "x" }, func(c *api.Cert) { c.L.Comps = nil }, func(c *api.Cert) { c.L.S.Exp++ }, func(c *api.Cert) { c.Around[0]++ }, func(c *api.Cert) { c.Around[4]++ }, func(c *api.Cert) { c.Wide[2]++ }, func(c *api.Cert) { c.Wide[4] = 1 },
	} {
		a, b := cert.Of(samples.Padded()), cert.Of(samples.Padded())
		change(&a)
		if cert.Same(a, b) || cert.Same(b, a) || !cert.Same(b, b) || !cert.Same(a, a) {
			t.Error(i)
		}
	}
	if !cert.Same(api.Cert{}, api.Cert{}) || cert.Same(api.Cert{}, cert.Of(samples.Bare())) {
		t.Error("none")
	}
}

// R3: what is certified doesn't change with what was handed in.
func TestApart(t *testing.T) {
	l := samples.Latin()
	c := cert.Of(l)
	l.Rules[0].Cat, l.Curs[0].Code, l.Comps[0].Pat = 5, "AAA", "x"
	if !cert.Same(c, cert.Of(samples.Latin())) {
		t.Error(c)
	}
	b, _ := bund.Encode(samples.Latin())
	c, _, _, _ = cert.Load(b)
	for i := range b {
		b[i] = 0
	}
	if !cert.Same(c, cert.Of(samples.Latin())) {
		t.Error(c)
	}
}
