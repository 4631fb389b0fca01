package back_test

import (
	"slices"
	"strings"
	"testing"

	"exergue/affix"
	"exergue/api"
	"exergue/back"
	"exergue/dec"
	"exergue/loc"
	"exergue/pat"
	"exergue/render"
	"exergue/samples"
)

func read(t *testing.T, s string) api.Dec {
	t.Helper()
	d, at, e := dec.Read(s)
	if e != api.OK {
		t.Fatalf("%.30q: %d", s, at)
	}
	return d
}

func around(pre, suf string) api.Affixes {
	return api.Affixes{Pre: []rune(pre), Suf: []rune(suf)}
}

// P19.1: what stands around a number, without pads.
func TestBare(t *testing.T) {
	for _, x := range []struct {
		at      int
		a, want api.Affixes
	}{
		{0, around("axb", "xcx"), around("axb", "xcx")}, {api.PadAhead, around("xxaxbx", "xcx"), around("ab", "xcx")}, {api.PadPre, around("xxaxbx", "xcx"), around("ab", "xcx")},
		{api.PadSuf, around("xax", "xxcxdx"), around("xax", "cd")}, {api.PadBehind, around("xax", "xxcxdx"), around("xax", "cd")}, {api.PadAhead, around("", ""), around("", "")}, {api.PadBehind, around("x", "xx"), around("x", "")}, {api.PadPre, around("xxx", "x"), around("", "x")},
		{api.PadAhead, around("aXé", ""), around("aXé", "")},
	} {
		if got := back.Bare(api.Pat{Pad: 'x', PadAt: x.at}, x.a); !affix.Same(got, x.want) {
			t.Error(x, got)
		}
	}
}

// texts are numbers' texts, in a row; of such as are the same, one behind the other, one stands.
func texts(l []api.Dec) string {
	var out []string
	for _, d := range l {
		out = append(out, dec.Text(d))
	}
	return strings.Join(slices.Compact(out), " ")
}

// P19.3: what can be read, in order.
func TestGuesses(t *testing.T) {
	latin, padded, indian, arabic := samples.Latin(), samples.Padded(), samples.Indian(), samples.Arabic()
	alike := samples.Latin()
	alike.Comps = []api.Comp{{Mag: 4, Pat: "0K"}, {Mag: 4, Cat: 1, Pat: "0K"}, {Mag: 5, Pat: "00K"}, {Mag: 7, Pat: "0M"}, {Mag: 7, Cat: 2, Pat: "'+'0K"}}
	for _, x := range []struct {
		l       api.Locale
		q       api.Req
		m, want string
	}{
		{latin, api.Req{}, "1,234.5", "12345e-1"}, {latin, api.Req{}, "-1,234.5", "-12345e-1"}, {latin, api.Req{}, "0", "0e0"}, {latin, api.Req{}, "-0", "-0e0"}, {latin, api.Req{}, "1234.5", ""}, {latin, api.Req{}, "+5", ""}, {latin, api.Req{Plus: true}, "+5", "5e0"}, {latin, api.Req{Plus: true}, "5", ""}, {latin, api.Req{Plus: true}, "-5", "-5e0"}, {latin, api.Req{}, "--5", ""}, {latin, api.Req{}, "5-", ""}, {latin, api.Req{}, "5 ", ""}, {latin, api.Req{}, "", ""}, {latin, api.Req{}, "-", ""}, {latin, api.Req{}, "1.23456789", "123456789e-8"}, {latin, api.Req{}, "0.500", "5e-1"}, {latin, api.Req{}, "0,001", "1e0"}, {latin, api.Req{}, "-.5", ""}, {latin, api.Req{}, "5%", ""}, {latin, api.Req{}, "1E5", ""}, {latin, api.Req{}, "١", ""},
		{latin, api.Req{Style: 1}, "1,234%", "1234e-2"}, {latin, api.Req{Style: 1}, "-5%", "-5e-2"}, {latin, api.Req{Style: 1}, "5", ""}, {latin, api.Req{Style: 1}, "0%", "0e0"}, {latin, api.Req{Style: 2}, "1.5E3", "15e2"}, {latin, api.Req{Style: 2}, "15", ""}, {latin, api.Req{Style: 2}, "-1E-3", "-1e-3"},
		{latin, api.Req{Style: 3, Code: "USD"}, "$5.00", "5e0"}, {latin, api.Req{Style: 3, Code: "USD"}, "($5.00)", "-5e0"}, {latin, api.Req{Style: 3, Code: "USD"}, "-$5.00", ""}, {latin, api.Req{Style: 3, Code: "USD"}, "€5.00", ""}, {latin, api.Req{Style: 3, Code: "USD", Sign: []rune("€")}, "€5.00", "5e0"}, {latin, api.Req{Style: 3, Code: "USD", Sign: []rune("€")}, "$5.00", ""}, {latin, api.Req{Style: 3, Code: "USD"}, "$5", "5e0"}, {latin, api.Req{Style: 3, Code: "USD", Plus: true}, "+$5", "5e0"},
		{latin, api.Req{Style: 4}, "5", "5e0"}, {latin, api.Req{Style: 4}, "-5", "-5e0"}, {latin, api.Req{Style: 4}, "1.2 thousands", "12e2"}, {latin, api.Req{Style: 4}, "1 thousand", "1e3"}, {latin, api.Req{Style: 4}, "-1 million", "-1e6"}, {latin, api.Req{Style: 4}, "1,000 millions", "1e9"}, {latin, api.Req{Style: 4}, "1000 millions", ""}, {latin, api.Req{Style: 4}, "5 billions", ""},
		{alike, api.Req{Style: 4}, "5K", "5e3"}, {alike, api.Req{Style: 4}, "+5K", "5e6"}, {alike, api.Req{Style: 4, Plus: true}, "+5K", "5e3"}, {alike, api.Req{Style: 4, Plus: true}, "-5K", "-5e3"},
		{padded, api.Req{}, "__5.0", "5e0"}, {padded, api.Req{}, "5.0", "5e0"}, {padded, api.Req{}, "_____5.0", "5e0"}, {padded, api.Req{}, "_~5", "-5e0"}, {padded, api.Req{}, "~_5", "-5e0"}, {padded, api.Req{}, "5_", ""}, {padded, api.Req{Style: 1}, "<xx5%", "5e-2"}, {padded, api.Req{Style: 1}, "x<5%", "5e-2"}, {padded, api.Req{Style: 1}, "<5%x", ""}, {padded, api.Req{Style: 2}, "5e+0_ _abc", "5e0"}, {padded, api.Req{Style: 2}, "5e0 abc", "5e0"}, {padded, api.Req{Style: 3, Code: "AAA"}, "[a] 5 !!%%!", "5e0"}, {padded, api.Req{Style: 4}, "_5", ""}, {padded, api.Req{Style: 4}, "5t", "5e1"}, {padded, api.Req{Style: 4}, "_5t", ""}, {padded, api.Req{Style: 4}, "5^", "5e29"},
		{indian, api.Req{Style: 1}, "\u2212%१२", "-12e-2"}, {indian, api.Req{}, "12", ""}, {arabic, api.Req{Bidi: true}, "٥", "5e0"}, {arabic, api.Req{Bidi: true}, "\u200F-٥", "-5e0"}, {arabic, api.Req{Bidi: true}, "-٥", ""}, {arabic, api.Req{Style: 4, Bidi: true}, "-٥ n", "-5e3"},
		{latin, api.Req{Html: true, Style: 3, Code: "USD", Sign: []rune("<")}, "&lt;5", "5e0"}, {latin, api.Req{Html: true, Style: 3, Code: "USD", Sign: []rune("<")}, "<5", ""}, {latin, api.Req{Style: 3, Code: "USD", Sign: []rune("<")}, "<5", "5e0"}, {latin, api.Req{Html: true}, "5&", ""}, {latin, api.Req{Html: true}, "5", "5e0"}, {latin, api.Req{Html: true}, "&#39;5", ""}, {latin, api.Req{Html: true}, "&#395", ""},
		{latin, api.Req{Style: 1}, "1" + strings.Repeat(",000", 334) + "%", ""}, {latin, api.Req{Style: 2}, "1E1000", "1e1000"}, {latin, api.Req{Style: 2}, "1E1001", ""},
	} {
		if got := texts(back.Guesses(x.l, x.q, []rune(x.m))); got != x.want {
			t.Errorf("%s, %v, %q: %s, not %s", x.l.Tag, x.q, x.m, got, x.want)
		}
	}
}

// P19.2: what isn't written so, and why.
func TestParseFaults(t *testing.T) {
	latin, padded := samples.Latin(), samples.Padded()
	for _, x := range []struct {
		l  api.Locale
		q  api.Req
		m  string
		at int
		e  api.Errno
	}{
		{latin, api.Req{}, "1234.5", 0, api.ErrBack}, {latin, api.Req{}, "1,234.50", 0, api.ErrBack}, {latin, api.Req{}, "01", 0, api.ErrBack}, {latin, api.Req{}, "1.2345", 0, api.ErrBack}, {latin, api.Req{}, "", 0, api.ErrBack}, {latin, api.Req{}, "abc", 0, api.ErrBack}, {latin, api.Req{}, " 5", 0, api.ErrBack}, {latin, api.Req{}, "+5", 0, api.ErrBack}, {latin, api.Req{Plus: true}, "5", 0, api.ErrBack}, {latin, api.Req{}, "5.", 0, api.ErrBack}, {latin, api.Req{}, "1.000", 0, api.ErrBack}, {latin, api.Req{}, "0,001", 0, api.ErrBack},
		{latin, api.Req{Style: 1}, "5.5%", 0, api.ErrBack}, {latin, api.Req{Style: 2}, "15E3", 0, api.ErrBack}, {latin, api.Req{Style: 2}, "1.50E3", 0, api.ErrBack}, {latin, api.Req{Style: 2}, "1.5E03", 0, api.ErrBack}, {latin, api.Req{Style: 2}, "1.5E+3", 0, api.ErrBack}, {latin, api.Req{Style: 2}, "1.12345678E3", 0, api.ErrBack}, {latin, api.Req{Style: 3, Code: "USD"}, "$5", 0, api.ErrBack}, {latin, api.Req{Style: 3, Code: "USD"}, "$5.001", 0, api.ErrBack}, {latin, api.Req{Style: 3, Code: "JPY"}, "¥5.00", 0, api.ErrBack}, {latin, api.Req{Style: 3, Code: "USD"}, "-$5.00", 0, api.ErrBack},
		{latin, api.Req{Style: 4}, "1 thousands", 0, api.ErrBack}, {latin, api.Req{Style: 4}, "2 thousand", 0, api.ErrBack}, {latin, api.Req{Style: 4}, "1.23 thousands", 0, api.ErrBack}, {latin, api.Req{Style: 4}, "1,000 thousands", 0, api.ErrBack}, {latin, api.Req{Style: 4}, "1,000", 0, api.ErrBack}, {latin, api.Req{Style: 4}, "0 thousands", 0, api.ErrBack},
		{padded, api.Req{}, "5.0", 0, api.ErrBack}, {padded, api.Req{}, "_5.0", 0, api.ErrBack}, {padded, api.Req{}, "___5.0", 0, api.ErrBack}, {padded, api.Req{}, "~_5.0", 0, api.ErrBack}, {padded, api.Req{Style: 1}, "x<12%", 0, api.ErrBack},
		{latin, api.Req{Html: true}, "5&", 1, api.ErrBack}, {latin, api.Req{Html: true}, "&amp;&amp5<", 5, api.ErrBack}, {latin, api.Req{Html: true}, "<", 0, api.ErrBack}, {latin, api.Req{Html: true}, "&#39;5", 0, api.ErrBack}, {latin, api.Req{Html: true}, "12'", 2, api.ErrBack}, {latin, api.Req{}, "5&", 0, api.ErrBack}, {latin, api.Req{}, "12<", 0, api.ErrBack},
		{latin, api.Req{Style: 5}, "5", 0, api.ErrReq}, {latin, api.Req{Mode: -1}, "5", 0, api.ErrReq}, {latin, api.Req{Style: 3, Code: "GBP"}, "5", 0, api.ErrReq}, {latin, api.Req{Style: 3, Code: "GBP", Html: true}, "5&", 0, api.ErrReq}, {samples.Arabic(), api.Req{}, "٥", 0, api.ErrReq}, {samples.Arabic(), api.Req{Html: true}, "٥<", 0, api.ErrReq},
	} {
		if d, at, e := back.Parse(x.l, x.q, []rune(x.m)); e != x.e || at != x.at || !dec.Same(d, api.Dec{}) {
			t.Errorf("%s, %v, %q: %v, %d, %d", x.l.Tag, x.q, x.m, d, at, e)
		}
	}
}

var numbers = []string{"0e0", "-0e0", "1e0", "-1e0", "5e-1", "15e-1", "-25e-3", "995e-3", "9995e-1", "12345e-1", "1234567e0", "-1234567e3", "123456789e-9", "1e30", "7e-30", "-999999e0", "9999999999e0", "2e3", "-3e3", "11e3", "1e2", "95e0", "995e0", "-999e26", "123456789012345678901234567890123e0", "1e900"}

// all goes through requests of all samples.
func all(do func(l api.Locale, q api.Req)) {
	for _, l := range samples.All() {
		codes := []string{""}
		for _, c := range l.Curs {
			codes = append(codes, c.Code)
		}
		for _, code := range codes {
			for style := range 5 {
				if (style == api.Currency) != (code != "") {
					continue
				}
				for i := range 4 {
					do(l, api.Req{Style: style, Code: code, Mode: i * 2, Plus: i&1 != 0, Html: i&2 != 0, Bidi: true})
				}
				if style == api.Currency {
					do(l, api.Req{Style: style, Code: code, Bidi: true, Html: true, Sign: []rune("<q\u200E>")})
				}
			}
		}
	}
}

// P19.2, P19.4: what is written is read as the number, rounded, with its side; numbers that are rounded apart are written apart.
func TestBothWays(t *testing.T) {
	all(func(l api.Locale, q api.Req) {
		seen := map[string]api.Dec{}
		for _, n := range numbers {
			d := read(t, n)
			m, e := render.Format(l, q, d)
			r, e1 := render.Round(l, q, d)
			if e != api.OK || e1 != api.OK {
				t.Fatal(l.Tag, q, n, e, e1)
			}
			got, at, e := back.Parse(l, q, m)
			if e != api.OK || at != 0 || !dec.Same(got, r) {
				t.Errorf("%s, %v, %s: %q: %v, %d", l.Tag, q, n, string(m), got, e)
			}
			if !slices.ContainsFunc(back.Guesses(l, q, m), func(d api.Dec) bool { return dec.Same(d, r) }) {
				t.Errorf("%s, %v, %s: not guessed", l.Tag, q, n)
			}
			if was, ok := seen[string(m)]; ok && !dec.Same(was, r) {
				t.Errorf("%s, %v: %q", l.Tag, q, string(m))
			}
			seen[string(m)] = r
		}
	})
}

// P19.2, P19.4: what is read of a text that was changed is written as that.
func TestChanged(t *testing.T) {
	all(func(l api.Locale, q api.Req) {
		if q.Plus {
			return
		}
		for _, n := range []string{"-12345e-1", "5e3", "1e0"} {
			m, _ := render.Format(l, q, read(t, n))
			for i := range m {
				for _, c := range []rune{m[0], l.S.Zero, l.S.Zero + 1, l.S.Dec, l.S.Group, l.S.Minus, 'x'} {
					changed := slices.Clone(m)
					changed[i] = c
					held(t, l, q, changed)
					held(t, l, q, slices.Insert(slices.Clone(m), i, c))
				}
				held(t, l, q, slices.Delete(slices.Clone(m), i, i+1))
			}
		}
	})
}

// held holds what Parse tells against what is guessed, and written.
func held(t *testing.T, l api.Locale, q api.Req, m []rune) {
	t.Helper()
	var want []api.Dec
	for _, d := range back.Guesses(l, q, m) {
		f, e := render.Format(l, q, d)
		r, e1 := render.Round(l, q, d)
		if e == api.OK && e1 == api.OK && slices.Equal(f, m) && dec.Same(r, d) && (len(want) == 0 || !dec.Same(want[0], d)) {
			want = append(want, d)
		}
	}
	d, _, e := back.Parse(l, q, m)
	if len(want) > 1 || len(want) == 1 && (e != api.OK || !dec.Same(d, want[0])) || len(want) == 0 && (e != api.ErrBack || !dec.Same(d, api.Dec{})) {
		t.Errorf("%s, %v, %q: %v, %d, %v", l.Tag, q, string(m), d, e, want)
	}
}

// P19.1: of a good locale's pattern, what was padded is bare again.
func TestBareAgain(t *testing.T) {
	l := samples.Padded()
	for style, text := range l.Pats {
		p, _ := loc.Pattern(l.S, style, text)
		for sign := range 3 {
			a := affix.Of(p, l.S, sign, []rune("a"))
			split, _, ok := affix.Split(l.S, render.Pads(p, a, []rune("5")))
			if !ok || !affix.Same(back.Bare(p, split), a) || !affix.Same(back.Bare(p, a), a) || pat.Width(p) < 3 {
				t.Error(style, sign, split)
			}
		}
	}
}

// R3: what is handed in stays as it was.
func TestUntouched(t *testing.T) {
	a := around("xax", "xbx")
	b := back.Bare(api.Pat{Pad: 'x', PadAt: api.PadAhead}, a)
	b.Pre[0], b.Suf[0] = 'q', 'q'
	m := []rune("1,234.5")
	d, _, _ := back.Parse(samples.Latin(), api.Req{}, m)
	back.Guesses(samples.Latin(), api.Req{}, m)
	d.D[0] = 7
	if !affix.Same(a, around("xax", "xbx")) || string(m) != "1,234.5" {
		t.Error(a, m)
	}
}
