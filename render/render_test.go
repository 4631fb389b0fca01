package render_test

import (
	"slices"
	"strings"
	"testing"

	"exergue/affix"
	"exergue/api"
	"exergue/class"
	"exergue/dec"
	"exergue/esc"
	"exergue/loc"
	"exergue/pat"
	"exergue/render"
	"exergue/round"
	"exergue/samples"
	"exergue/shape"
)

func read(t *testing.T, s string) api.Dec {
	t.Helper()
	d, at, e := dec.Read(s)
	if e != api.OK {
		t.Fatalf("%.30q: %d", s, at)
	}
	return d
}

// req is a request of a style, rounded half to even, with runes that turn.
func req(style int, code string) api.Req {
	return api.Req{Style: style, Mode: api.HalfEven, Code: code, Bidi: true}
}

// P18.2: numbers, written by each style of some locales.
func TestWritten(t *testing.T) {
	latin, indian, arabic, padded, bare := samples.Latin(), samples.Indian(), samples.Arabic(), samples.Padded(), samples.Bare()
	for _, x := range []struct {
		l    api.Locale
		q    api.Req
		d    string
		want string
	}{
		{latin, req(api.Decimal, ""), "12345e-1", "1,234.5"}, {latin, req(api.Decimal, ""), "-12345678e-4", "-1,234.568"}, {latin, req(api.Decimal, ""), "0e0", "0"}, {latin, req(api.Decimal, ""), "-0e0", "-0"}, {latin, req(api.Decimal, ""), "-1e-9", "-0"}, {latin, req(api.Decimal, "XYZ"), "1e6", "1,000,000"}, {latin, req(api.Decimal, ""), "25e-4", "0.002"}, {latin, req(api.Decimal, ""), "35e-4", "0.004"},
		{latin, req(api.Percent, ""), "12345e-3", "1,234%"}, {latin, req(api.Percent, ""), "5e-3", "0%"}, {latin, req(api.Percent, ""), "15e-3", "2%"}, {latin, req(api.Percent, ""), "-1e0", "-100%"},
		{latin, req(api.Scientific, ""), "12345e-1", "1.2345E3"}, {latin, req(api.Scientific, ""), "-123456789e-20", "-1.234568E-12"}, {latin, req(api.Scientific, ""), "0e0", "0E0"}, {latin, req(api.Scientific, ""), "9999999999e0", "1E10"},
		{latin, req(api.Currency, "USD"), "12345e-1", "$1,234.50"}, {latin, req(api.Currency, "USD"), "-12345e-1", "($1,234.50)"}, {latin, req(api.Currency, "JPY"), "12345e-1", "¥1,234"}, {latin, req(api.Currency, "TND"), "1e0", "TND1.000"}, {latin, req(api.Currency, "EUR"), "-1e-3", "(€0.00)"},
		{latin, req(api.Compact, ""), "0e0", "0"}, {latin, req(api.Compact, ""), "-5e0", "-5"}, {latin, req(api.Compact, ""), "999e0", "999"}, {latin, req(api.Compact, ""), "9994e-1", "999"}, {latin, req(api.Compact, ""), "9996e-1", "1 thousand"}, {latin, req(api.Compact, ""), "1e3", "1 thousand"}, {latin, req(api.Compact, ""), "1234e0", "1.2 thousands"}, {latin, req(api.Compact, ""), "-1e3", "-1 thousand"}, {latin, req(api.Compact, ""), "2e3", "2 thousands"}, {latin, req(api.Compact, ""), "12345e0", "12 thousands"}, {latin, req(api.Compact, ""), "1e4", "10 thousands"}, {latin, req(api.Compact, ""), "123456e0", "123 thousands"}, {latin, req(api.Compact, ""), "999999e0", "1 million"}, {latin, req(api.Compact, ""), "15e5", "1.5 millions"}, {latin, req(api.Compact, ""), "12e7", "120 millions"}, {latin, req(api.Compact, ""), "123456e7", "1,234,560 millions"}, {latin, req(api.Compact, ""), "12345e-4", "1.2"}, {latin, req(api.Compact, ""), "12345e-8", "0.00012"}, {latin, req(api.Compact, ""), "12345e-3", "12"}, {latin, req(api.Compact, ""), "105e-2", "1"},
		{indian, req(api.Decimal, ""), "12345678e-1", "१२\u00a0३४\u00a0५६७,८"}, {indian, req(api.Decimal, ""), "-1e0", "\u2212१,०"}, {indian, req(api.Percent, ""), "1234e-4", "१२,३४%"}, {indian, req(api.Percent, ""), "-1234e-4", "\u2212%१२,३४"}, {indian, req(api.Scientific, ""), "12e4", "१,२×+०५"}, {indian, req(api.Scientific, ""), "12e-12", "१,२×\u2212११"}, {indian, req(api.Currency, "INR"), "-5e5", "\u2212५\u00a0००\u00a0०००,०० ₹"}, {indian, req(api.Currency, "XXX"), "1e0", "१,०००० (<&>)"},
		{indian, req(api.Compact, ""), "1e5", "१ L"}, {indian, req(api.Compact, ""), "1234567e0", "१२ L"}, {indian, req(api.Compact, ""), "12e6", "<१,२>"}, {indian, req(api.Compact, ""), "1e11", "<१०\u00a0०००>"}, {indian, req(api.Compact, ""), "-12e6", "\u2212<१,२>"},
		{arabic, req(api.Decimal, ""), "-15e-1", "\u200F-١٫٥"}, {arabic, req(api.Percent, ""), "12e-2", "\u2067١٢\u2069٪"}, {arabic, req(api.Percent, ""), "-12e-2", "-\u2067١٢\u2069٪"}, {arabic, req(api.Scientific, ""), "-12e-2", "-١٫٢أ-١"}, {arabic, req(api.Currency, "EGP"), "1234e0", "\u2068ج.م.\u200F\u2069 ١٬٢٣٤٫٠٠"},
		{arabic, req(api.Compact, ""), "1e3", "١ n"}, {arabic, req(api.Compact, ""), "2e3", "٢ t"}, {arabic, req(api.Compact, ""), "3e3", "٣ f"}, {arabic, req(api.Compact, ""), "15e3", "١٥ m"}, {arabic, req(api.Compact, ""), "15e2", "١٫٥ o"}, {arabic, req(api.Compact, ""), "1e5", "١٠٠ o"}, {arabic, req(api.Compact, ""), "-1e3", "-١ n"},
		{arabic, req(api.Compact, ""), "3e9", "٣٬٠٠٠\u200E x"}, {arabic, req(api.Compact, ""), "-7e0", "\u200F-٧"},
		{padded, req(api.Decimal, ""), "5e0", "__5.0"}, {padded, req(api.Decimal, ""), "-5e0", "_~5.0"}, {padded, req(api.Decimal, ""), "123456789e0", "123460000"}, {padded, req(api.Percent, ""), "1e-2", "<1.0%"}, {padded, req(api.Percent, ""), "12e-2", "<x12%"}, {padded, req(api.Percent, ""), "-12e-2", "~<12%"}, {padded, req(api.Scientific, ""), "5e0", "5.00e+00_ abc"}, {padded, req(api.Currency, "AAA"), "5e0", "[a] 5 %%!!!!!!!!!!"}, {padded, req(api.Currency, "AAB"), "123456e-2", "[a&b] 1'234.5600 %%"}, {padded, req(api.Compact, ""), "5e0", "5"}, {padded, req(api.Compact, ""), "12e0", "1.2t"}, {padded, req(api.Compact, ""), "12e1", "h12"}, {padded, req(api.Compact, ""), "-7e29", "~7^"}, {padded, req(api.Compact, ""), "123e29", "123^"},
		{bare, req(api.Decimal, ""), "-15e-1", "m\U0001D7D0"}, {bare, req(api.Compact, ""), "1234567e0", "\U0001D7CF\U0001D7D0\U0001D7D1\U0001D7D2\U0001D7D3\U0001D7D4\U0001D7D5"}, {bare, req(api.Compact, ""), "123e-2", "\U0001D7CFd\U0001D7D0"},
	} {
		if got, e := render.Plain(x.l, x.q, read(t, x.d)); e != api.OK || string(got) != x.want {
			t.Errorf("%s, %d, %s, %s: %q, %d, not %q", x.l.Tag, x.q.Style, x.q.Code, x.d, string(got), e, x.want)
		}
	}
}

// P18.2: a plus, another sign of a currency, other ways to round, and pages.
func TestRequests(t *testing.T) {
	for _, x := range []struct {
		l    api.Locale
		q    api.Req
		d    string
		want string
	}{
		{samples.Latin(), api.Req{Plus: true}, "5e0", "+5"}, {samples.Latin(), api.Req{Plus: true}, "0e0", "+0"}, {samples.Latin(), api.Req{Plus: true}, "-5e0", "-5"}, {samples.Latin(), api.Req{Plus: true, Style: api.Currency, Code: "USD"}, "5e0", "+$5.00"}, {samples.Latin(), api.Req{Plus: true, Style: api.Currency, Code: "USD"}, "-5e0", "($5.00)"}, {samples.Latin(), api.Req{Plus: true, Style: api.Compact}, "5e3", "+5 thousands"}, {samples.Arabic(), api.Req{Plus: true, Bidi: true}, "5e0", "\u200F+٥"}, {samples.Indian(), api.Req{Plus: true, Style: api.Percent}, "5e0", "+%५००"}, {samples.Latin(), api.Req{Plus: true, Style: api.Scientific}, "5e0", "+5E0"},
		{samples.Latin(), api.Req{Style: api.Currency, Code: "USD", Sign: []rune("US$ ")}, "5e0", "US$ 5.00"}, {samples.Latin(), api.Req{Style: api.Currency, Code: "JPY", Sign: []rune("&<>'\"")}, "5e0", "&<>'\"5"}, {samples.Latin(), api.Req{Style: api.Decimal, Code: "USD", Sign: []rune("US$")}, "5e0", "5"}, {samples.Latin(), api.Req{Style: api.Percent, Sign: []rune("5")}, "5e0", "500%"},
		{samples.Latin(), api.Req{Mode: api.Up}, "12341e-4", "1.235"}, {samples.Latin(), api.Req{Mode: api.Down}, "12349e-4", "1.234"}, {samples.Latin(), api.Req{Mode: api.Ceil}, "-12349e-4", "-1.234"}, {samples.Latin(), api.Req{Mode: api.Floor}, "-12341e-4", "-1.235"}, {samples.Latin(), api.Req{Mode: api.HalfUp}, "12345e-4", "1.235"}, {samples.Latin(), api.Req{Mode: api.HalfDown}, "12345e-4", "1.234"}, {samples.Latin(), api.Req{Mode: api.HalfOdd}, "12345e-4", "1.235"}, {samples.Latin(), api.Req{Style: api.Percent, Mode: api.Up}, "1e-9", "1%"}, {samples.Latin(), api.Req{Style: api.Compact, Mode: api.Up}, "1001e0", "1.1 thousands"}, {samples.Latin(), api.Req{Style: api.Currency, Code: "JPY", Mode: api.Up}, "11e-1", "¥2"}, {samples.Latin(), api.Req{Style: api.Scientific, Mode: api.Down}, "12345678e0", "1.234567E7"},
		{samples.Latin(), api.Req{Html: true, Style: api.Currency, Code: "JPY", Sign: []rune("&<>'\"")}, "5e0", "&amp;&lt;&gt;&#39;&quot;5"}, {samples.Indian(), api.Req{Html: true, Style: api.Compact}, "-1e7", "\u2212&lt;१&gt;"}, {samples.Padded(), api.Req{Html: true, Style: api.Percent}, "12e-2", "&lt;x12%"}, {samples.Padded(), api.Req{Html: true, Style: api.Currency, Code: "AAB", Mode: api.HalfUp}, "123456e-2", "[a&amp;b] 1&#39;234.5600 %%"}, {samples.Latin(), api.Req{Html: true}, "5e0", "5"},
	} {
		if got, e := render.Format(x.l, x.q, read(t, x.d)); e != api.OK || string(got) != x.want {
			t.Errorf("%s, %v, %s: %q, %d, not %q", x.l.Tag, x.q, x.d, string(got), e, x.want)
		}
	}
}

// P18.1: which requests may be.
func TestAsk(t *testing.T) {
	latin, arabic := samples.Latin(), samples.Arabic()
	free := samples.Indian()
	turn := samples.Latin()
	turn.Comps[6].Pat = "00\u200E millions"
	late := samples.Latin()
	late.Pats[0] = "0;\u200F0"
	for i, x := range []struct {
		l  api.Locale
		q  api.Req
		ok bool
	}{
		{latin, api.Req{}, true}, {latin, api.Req{Style: 1}, true}, {latin, api.Req{Style: 2}, true}, {latin, api.Req{Style: 4}, true}, {latin, api.Req{Style: 5}, false}, {latin, api.Req{Style: -1}, false}, {latin, api.Req{Style: 1 << 40}, false}, {latin, api.Req{Mode: 7}, true}, {latin, api.Req{Mode: 8}, false}, {latin, api.Req{Mode: -1}, false}, {latin, api.Req{Style: 9, Mode: 9}, false},
		{latin, api.Req{Style: 3}, false}, {latin, api.Req{Style: 3, Code: "USD"}, true}, {latin, api.Req{Style: 3, Code: "usd"}, false}, {latin, api.Req{Style: 3, Code: "GBP"}, false}, {latin, api.Req{Style: 3, Code: "USD "}, false}, {samples.Bare(), api.Req{Style: 3, Code: "USD"}, false}, {samples.Bare(), api.Req{Style: 4}, true}, {latin, api.Req{Code: "GBP"}, true},
		{latin, api.Req{Style: 3, Code: "USD", Sign: []rune("$")}, true}, {latin, api.Req{Style: 3, Code: "USD", Sign: []rune{}}, true}, {latin, api.Req{Style: 3, Code: "USD", Sign: []rune("5")}, false}, {latin, api.Req{Style: 3, Code: "USD", Sign: []rune("a.b")}, false}, {latin, api.Req{Style: 3, Code: "USD", Sign: []rune(strings.Repeat("x", 20))}, true}, {latin, api.Req{Style: 3, Code: "USD", Sign: []rune(strings.Repeat("x", 21))}, false}, {latin, api.Req{Style: 3, Code: "USD", Sign: []rune{-1}}, false}, {latin, api.Req{Style: 3, Code: "GBP", Sign: []rune("$")}, false}, {samples.Padded(), api.Req{Style: 3, Code: "AAA", Sign: []rune("!")}, false}, {latin, api.Req{Style: 0, Sign: []rune("55555")}, true}, {latin, api.Req{Style: 3, Code: "USD", Sign: []rune("\n"), Bidi: true}, false},
		{latin, api.Req{Style: 3, Code: "USD", Sign: []rune("\u200E$")}, false}, {latin, api.Req{Style: 3, Code: "USD", Sign: []rune("\u200E$"), Bidi: true}, true}, {latin, api.Req{Style: 3, Code: "USD", Sign: []rune("\u2066$\u2069"), Bidi: true}, true}, {latin, api.Req{Style: 3, Code: "USD", Sign: []rune("\u2066$"), Bidi: true}, false}, {latin, api.Req{Style: 3, Code: "USD", Sign: []rune("\u202A$"), Bidi: true}, false},
		{arabic, api.Req{}, false}, {arabic, api.Req{Bidi: true}, true}, {arabic, api.Req{Style: 1}, false}, {arabic, api.Req{Style: 1, Bidi: true}, true}, {arabic, api.Req{Style: 2}, true}, {arabic, api.Req{Style: 3, Code: "USD"}, false}, {arabic, api.Req{Style: 3, Code: "USD", Bidi: true}, true}, {arabic, api.Req{Style: 4}, false}, {arabic, api.Req{Style: 4, Bidi: true}, true},
		{free, api.Req{}, true}, {free, api.Req{Style: 3, Code: "INR"}, true}, {turn, api.Req{}, true}, {turn, api.Req{Style: 4}, false}, {turn, api.Req{Style: 4, Bidi: true}, true}, {late, api.Req{}, false}, {late, api.Req{Style: 4}, false}, {late, api.Req{Style: 1}, true}, {late, api.Req{Style: 3, Code: "USD"}, true},
	} {
		d := read(t, "15e-1")
		e := render.Ask(x.l, x.q)
		r, e1 := render.Round(x.l, x.q, d)
		p, e2 := render.Plain(x.l, x.q, d)
		f, e3 := render.Format(x.l, x.q, d)
		if x.ok && (e != api.OK || e1 != api.OK || e2 != api.OK || e3 != api.OK) {
			t.Error(i, e, e1, e2, e3)
		}
		if !x.ok && (e != api.ErrReq || e1 != api.ErrReq || e2 != api.ErrReq || e3 != api.ErrReq || !dec.Same(r, api.Dec{}) || len(p) != 0 || len(f) != 0) {
			t.Error(i, e, e1, e2, e3, r, p, f)
		}
	}
	egp := samples.Arabic()
	egp.Pats[3] = "¤ 0"
	if render.Ask(egp, api.Req{Style: 3, Code: "EGP"}) != api.ErrReq || render.Ask(egp, api.Req{Style: 3, Code: "USD"}) != api.OK || render.Ask(egp, api.Req{Style: 3, Code: "EGP", Sign: []rune("x")}) != api.OK {
		t.Error("a currency that turns")
	}
}

// P18.1: the power of each magnitude.
func TestPower(t *testing.T) {
	for mag, want := range map[int][2]int{-1 << 63: {0, 0}, -5: {0, 0}, 0: {0, 0}, 3: {0, 0}, 4: {3, 4}, 5: {3, 5}, 6: {3, 6}, 7: {6, 7}, 8: {6, 8}, 9: {6, 8}, 1<<63 - 1: {6, 8}} {
		if power, at := render.Power(samples.Latin(), mag); power != want[0] || at != want[1] {
			t.Error(mag, power, at)
		}
	}
	for mag, want := range map[int][2]int{1: {0, 0}, 2: {1, 2}, 3: {1, 3}, 29: {1, 3}, 30: {29, 30}, 31: {29, 30}} {
		if power, at := render.Power(samples.Padded(), mag); power != want[0] || at != want[1] {
			t.Error(mag, power, at)
		}
	}
	for mag, want := range map[int][2]int{4: {3, 4}, 9: {3, 4}, 10: {6, 10}} {
		if power, at := render.Power(samples.Arabic(), mag); power != want[0] || at != want[1] {
			t.Error(mag, power, at)
		}
	}
	if power, at := render.Power(samples.Bare(), 9); power != 0 || at != 0 {
		t.Error(power, at)
	}
}

// P18.1: affixes around a number, padded.
func TestPads(t *testing.T) {
	for _, x := range []struct{ p, pre, n, suf, want string }{
		{"#,##0", "a", "5", "b", "a5b"}, {"*x#,##0", "a", "5", "b", "xxa5b"}, {"a*x#,##0", "a", "5", "b", "axxx5b"}, {"#,##0*x", "a", "5", "b", "a5xxb"}, {"#,##0b*x", "a", "5", "b", "a5bxxx"}, {"*x#,##0", "", "12345", "", "12345"}, {"*x#,##0", "", "1234", "", "x1234"}, {"*x#,##0", "ab", "1234567", "cd", "ab1234567cd"},
		{"*x0", "", "", "", "x"}, {"*é@@@", "é", "1", "", "éé1"}, {"*xab0cd;-0", "", "1", "", "xxxx1"}, {"0.00E0'%%'*\u00a0", "", "1", "", "1\u00a0\u00a0\u00a0\u00a0\u00a0\u00a0\u00a0"}, {"-*x0", "-", "1", "", "-1"}, {"-*x00", "", "1", "", "xx1"},
	} {
		p, at, e := pat.Parse(x.p)
		if e != api.OK {
			t.Fatal(x.p, at)
		}
		a := api.Affixes{Pre: []rune(x.pre), Suf: []rune(x.suf)}
		if got := render.Pads(p, a, []rune(x.n)); string(got) != x.want {
			t.Errorf("%v: %q", x, string(got))
		}
		if string(a.Pre) != x.pre || string(a.Suf) != x.suf {
			t.Error(a)
		}
	}
}

// P18.2: the errors of chapters 5 and 6.
func TestErrors(t *testing.T) {
	latin := samples.Latin()
	figures := samples.Latin()
	figures.Pats[0], figures.Pats[1] = "@@", "@@%"
	for _, x := range []struct {
		l api.Locale
		q api.Req
		d string
		e api.Errno
	}{
		{latin, api.Req{Style: api.Percent}, "1e999", api.ErrFull}, {latin, api.Req{Style: api.Percent}, "1e1000", api.ErrFull}, {latin, api.Req{Style: api.Percent}, "1e998", api.OK}, {latin, api.Req{Style: api.Scientific}, "9999999999e991", api.ErrFull}, {latin, api.Req{Style: api.Scientific}, "12345678901e997", api.ErrArg}, {latin, api.Req{Style: 3, Code: "GBP"}, "1e1000", api.ErrReq}, {latin, api.Req{Style: api.Percent, Mode: 8}, "1e1000", api.ErrReq},
		{figures, api.Req{Style: api.Percent}, "123e998", api.ErrArg}, {figures, api.Req{Style: api.Percent}, "999e996", api.ErrFull}, {figures, api.Req{Style: api.Percent}, "99e998", api.OK},
		{figures, api.Req{}, "123e1000", api.ErrArg}, {figures, api.Req{}, "999e998", api.ErrFull}, {figures, api.Req{}, "99e1000", api.OK}, {latin, api.Req{}, "1e1000", api.OK}, {latin, api.Req{Style: api.Compact}, "1e1000", api.OK}, {latin, api.Req{Style: api.Compact}, "7e-1000", api.OK},
	} {
		d := read(t, x.d)
		r, e1 := render.Round(x.l, x.q, d)
		p, e2 := render.Plain(x.l, x.q, d)
		f, e3 := render.Format(x.l, x.q, d)
		if e1 != x.e || e2 != x.e || e3 != x.e || x.e != api.OK && (!dec.Same(r, api.Dec{}) || len(p) != 0 || len(f) != 0) {
			t.Error(x.q, x.d, e1, e2, e3)
		}
	}
}

var numbers = []string{"0e0", "-0e0", "1e0", "-1e0", "5e-1", "15e-1", "-25e-3", "995e-3", "9995e-1", "12345e-1", "1234567e0", "-1234567e3", "123456789e-9", "1e30", "7e-30", "-999999e0", "9999999999e0", "1e-3", "2e3", "3e3", "11e3", "1e2", "95e0", "995e0", "-999e26", "123456789012345678901234567890123e0"}

// all goes through requests and numbers of all samples.
func all(t *testing.T, do func(l api.Locale, q api.Req, d api.Dec)) {
	for _, l := range samples.All() {
		codes := []string{""}
		for _, c := range l.Curs {
			codes = append(codes, c.Code)
		}
		for _, code := range codes {
			for style := range 5 {
				if (style == api.Currency) != (code != "") {
					continue
				}
				for i := range 16 {
					q := api.Req{Style: style, Code: code, Mode: i % 8, Plus: i&8 != 0, Html: i%3 == 0, Bidi: true}
					for _, n := range numbers {
						do(l, q, read(t, n))
					}
				}
			}
		}
	}
}

// P18.2: a number is rounded as its style says.
func TestRounded(t *testing.T) {
	all(t, func(l api.Locale, q api.Req, d api.Dec) {
		style, digits := q.Style, -1
		for _, c := range l.Curs {
			if style == api.Currency && c.Code == q.Code {
				digits = c.Digits
			}
		}
		var want api.Dec
		if style == api.Compact {
			mag := dec.Mag(d) + 1
			power, _ := render.Power(l, mag)
			want, _ = round.Sig(d, max(2, mag-power), q.Mode)
		} else {
			p, _ := loc.Pattern(l.S, style, l.Pats[style])
			up := 0
			if style == api.Percent {
				up = 2
			}
			want, _ = dec.Shift(d, up)
			want, _ = shape.Round(p, digits, want, q.Mode)
			want, _ = dec.Shift(want, -up)
		}
		if got, e := render.Round(l, q, d); e != api.OK || !dec.Same(got, want) {
			t.Error(l.Tag, q, dec.Text(d), dec.Text(got), e)
		}
	})
}

// P18.3: what is rounded is, rounded again, the same, and written as the number itself; what is written is as it may be.
func TestFollows(t *testing.T) {
	all(t, func(l api.Locale, q api.Req, d api.Dec) {
		r, e := render.Round(l, q, d)
		again, e1 := render.Round(l, q, r)
		if e != api.OK || e1 != api.OK || !dec.Same(r, again) || r.Neg != d.Neg {
			t.Error(l.Tag, q, dec.Text(d), dec.Text(r), dec.Text(again))
		}
		a, _ := render.Plain(l, q, d)
		b, _ := render.Plain(l, q, r)
		f, _ := render.Format(l, q, d)
		if !slices.Equal(a, b) || !class.Turns(a) || !class.Calm(a) || len(a) == 0 {
			t.Error(l.Tag, q, dec.Text(d), string(a), string(b))
		}
		if !q.Html && !slices.Equal(a, f) {
			t.Error(l.Tag, q, dec.Text(d), string(f))
		}
		if u, _, e := esc.Unescape(f); q.Html && (esc.Raw(f) || e != api.OK || !slices.Equal(u, a)) {
			t.Error(l.Tag, q, dec.Text(d), string(f))
		}
		q.Bidi = false
		bidi := slices.ContainsFunc(a, func(r rune) bool { return class.Of(r) == api.Bidi })
		if c, e := render.Plain(l, q, d); e == api.OK && (bidi || !slices.Equal(a, c)) || bidi && e != api.ErrReq {
			t.Error(l.Tag, q, dec.Text(d), string(c), e)
		}
	})
}

// P18.2: but of Compact, it is what the pattern says, and what chapter 17 writes, padded.
func TestParts(t *testing.T) {
	all(t, func(l api.Locale, q api.Req, d api.Dec) {
		if q.Style == api.Compact {
			return
		}
		p, _ := loc.Pattern(l.S, q.Style, l.Pats[q.Style])
		r, _ := render.Round(l, q, d)
		digits := -1
		var cur []rune
		for _, c := range l.Curs {
			if q.Style == api.Currency && c.Code == q.Code {
				digits, cur = c.Digits, []rune(c.Sign)
			}
		}
		if q.Style == api.Percent {
			r, _ = dec.Shift(r, 2)
		}
		sign := 0
		if d.Neg {
			sign = 1
		} else if q.Plus {
			sign = 2
		}
		want := render.Pads(p, affix.Of(p, l.S, sign, cur), shape.Write(l.S, p, digits, r))
		if got, e := render.Plain(l, q, d); e != api.OK || !slices.Equal(got, want) {
			t.Error(l.Tag, q, dec.Text(d), string(got), string(want))
		}
		if p.PadAt != 0 && len(want) < pat.Width(p) {
			t.Error(l.Tag, q, string(want))
		}
	})
}

// P18.2: a power is told to plural rules.
func TestPowerTold(t *testing.T) {
	l := samples.Latin()
	l.Rules = []api.Rule{{Cat: api.One, Text: "c = 3 and i = 1"}, {Cat: api.Many, Text: "e = 6"}}
	l.Comps = append(l.Comps, api.Comp{Mag: 9, Cat: api.Other, Pat: "000 o"}, api.Comp{Mag: 9, Cat: api.Many, Pat: "000 m"})
	for d, want := range map[string]string{"1e3": "1 thousand", "2e3": "2 thousands", "12e2": "1.2 thousand", "1e6": "1 millions", "1e8": "100 m", "1e9": "1,000 m"} {
		if got, e := render.Plain(l, api.Req{Style: api.Compact}, read(t, d)); e != api.OK || string(got) != want {
			t.Error(d, string(got), e)
		}
	}
}

// R3: what is handed in stays as it was.
func TestUntouched(t *testing.T) {
	d, sign := read(t, "12345e-1"), []rune("x$")
	for _, l := range samples.All() {
		for style := range 5 {
			q := api.Req{Style: style, Bidi: true, Sign: sign}
			if len(l.Curs) > 0 {
				q.Code = l.Curs[0].Code
			}
			r, _ := render.Round(l, q, d)
			p, _ := render.Plain(l, q, d)
			f, _ := render.Format(l, q, d)
			for i := range r.D {
				r.D[i] = 7
			}
			for i := range p {
				p[i] = 'q'
			}
			for i := range f {
				f[i] = 'q'
			}
		}
	}
	if dec.Text(d) != "12345e-1" || string(sign) != "x$" {
		t.Error(d, sign)
	}
}
