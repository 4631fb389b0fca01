package loc_test

import (
	"fmt"
	"slices"
	"strings"
	"testing"

	"exergue/affix"
	"exergue/api"
	"exergue/loc"
	"exergue/pat"
	"exergue/plur"
	"exergue/samples"
	"exergue/sym"
)

var latin = samples.Latin().S

func rep(s string, n int) string { return strings.Repeat(s, n) }

// P15.1: which are tags.
func TestTag(t *testing.T) {
	for _, s := range []string{"a", "Z", "0", "-", "en-GB", "azAZ09-", rep("x", 20), "---"} {
		if !loc.Tag(s) {
			t.Error(s)
		}
	}
	for _, s := range []string{"", rep("x", 21), "en_GB", "é", "a b", "a\x00", "a.", "@", "[", "`", "{", "/", ":", "\xff"} {
		if loc.Tag(s) {
			t.Error(s)
		}
	}
}

// in tells by which styles' letters (D, P, S, C) a text is a pattern.
func in(s api.Sym, text string) string {
	out := ""
	for style, c := range "DPSC" {
		p, ok := loc.Pattern(s, style, text)
		want, _, _ := pat.Parse(text)
		if ok {
			out += string(c)
		} else {
			want = api.Pat{}
		}
		if !pat.Same(p, want) {
			return "?"
		}
	}
	return out
}

// P15.1: which texts are patterns of which styles.
func TestPattern(t *testing.T) {
	for text, styles := range map[string]string{
		"0": "D", "#,##0.00": "D", "@": "D", "@@#": "D", "0%": "P", "%0": "P", "@@%": "P", "0E0": "S", "0.0#E+00": "S", "0¤": "C", "¤ #,##0.00": "C",
		"#": "", "#.#": "", "#,###": "", "#%": "", "#¤": "", "@¤": "", "@@#¤": "", "@E0": "", "@#E0%": "", "#E0": "", "#0E0": "", "00E0": "", "0,0E0": "", "##0.0E0": "", "0E0%": "", "¤0E0": "",
		"%0%": "", "0%%": "", "¤0¤": "", "0%¤": "", "¤%0": "", "-0": "", "0-": "", "+0": "", "0+": "", "-0%": "", "0¤-": "", "0+¤": "", "-0E0": "",
		"0;-0": "D", "0;0-": "D", "0;(0)": "D", "0;0": "", "0;--0": "", "0;-0-": "", "0;+0": "", "0;-0%": "", "0;-0¤": "", "0;+-0": "",
		"0%;-0%": "P", "0%;%-0": "P", "0%;-0": "", "0%;(0)": "", "0%;(0%)": "P", "0%;-0%%": "", "0%;%0": "P", "0%;0%": "", "%0;-%0": "P", "0%;-0¤": "", "0%;+0%": "",
		"0¤;(0¤)": "C", "0¤;-0¤": "C", "0¤;-0": "", "0¤;0": "", "0¤;¤0": "", "0¤;¤¤0": "", "0¤;-0-¤": "", "0¤;x¤0": "C", "0¤;x0": "", "0E0;-0E0": "S", "0E0;(0E0)": "S", "0E0;0E0": "",
		"0;+'-'0": "", "0;'-'0": "D", "0;a0": "D", "0;+0-": "", "a0": "D", "0 abc": "D", "0;'+'0": "", "'-'0": "D", "'+'0": "D", "0'%'": "D", "'%'0%": "P", "0;-'+'0": "D",
		"0'.'": "", "','0": "", "a'E'0": "", "e0": "D", "'1'0": "", "0\u0665": "", "0\u202A": "", "0\u2066": "", "\u20660\u2069": "D", "\u20690\u2066": "", "0\u200E": "D", "0\n": "", "0\ufffe": "",
		"0;\u20660\u2069": "D", "0;\u20660": "", "0;'.'0": "", "0;50": "", "0;'5'0": "",
		"*x0": "D", "x*y0": "D", "*x0%": "P", "*x¤0": "C", "0*x¤": "C", "0¤* ": "C", "0* ": "D", "*\u00a00": "D", "*x0E0": "S", "0.0E0abc*d": "S",
		"x*x0": "", "*-0": "", "*+0": "", "*-0;(0)": "D", "*+0;(0)": "", "*+0;-0": "", "*+0;(0)-": "", "*-0;-0": "", "*%0": "D", "*%0%": "", "*.0": "", "*,0": "", "*E0": "", "*50": "", "*00": "", "*٣0": "", "*x0x": "", "*x0;x0": "", "*x0;-0x": "",
		"*\u200E0": "", "*\n0": "", "*\ufdd00": "", "*¤0": "D", "*¤¤0": "C", "**0": "D", "*'0": "D", "*;0": "D",
		"": "", "abc": "", "0;": "", "0,": "", "'a0": "", "0.0.0": "", "\xff0": "", rep("#", 41): "", rep("a", 121) + "0": "",
		"'" + rep("#a", 58) + "'0": "", rep("a", 119) + "0": "D", rep("a", 115) + "*xx0": "", rep("a", 116) + "*x0%": "P",
	} {
		if got := in(latin, text); got != styles {
			t.Errorf("%q: %q, not %q", text, got, styles)
		}
	}
	for _, style := range []int{-1, 4, 5, 1 << 40, -1 << 63} {
		if p, ok := loc.Pattern(latin, style, "0"); ok || !pat.Same(p, api.Pat{}) {
			t.Error(style, p, ok)
		}
	}
	// By other signs other runes stand in a number, and are signs.
	other := samples.Indian().S
	for text, styles := range map[string]string{"0'.'": "D", "0','": "", "0\u00a0": "", "0\u00d7": "", "0'E'": "D", "0\u2212;-0": "D", "0;\u22120": "D", "0;-0\u2212": "D", "*-0": "D", "*\u22120": "", "*\u22120;(0)": "D", "*٣0": ""} {
		if got := in(other, text); got != styles {
			t.Errorf("%q: %q, not %q", text, got, styles)
		}
	}
}

// P15.1: which runes may be a currency's.
func TestMoney(t *testing.T) {
	for _, x := range []struct {
		text, sign string
		may        bool
	}{
		{"¤0", "$", true}, {"¤0", "", false}, {"¤0", rep("€", 20), true}, {"¤0", rep("€", 21), false}, {"¤0", "a b", true}, {"¤0", "-", true}, {"¤0", "+", true},
		{"¤0", "5", false}, {"¤0", "a٣", false}, {"¤0", ".", false}, {"¤0", "a,", false}, {"¤0", "E", false}, {"¤0", "EUR", false}, {"¤0", "e", true}, {"¤0", "\n", false}, {"¤0", "\u2066", false}, {"¤0", "\u2066$\u2069", true}, {"¤0", "\u202A", false}, {"¤0", "\ufffe", false}, {"¤0", "\u200F", true},
		{"0¤*x", "x", false}, {"0¤*x", "axb", false}, {"0¤*x", "ab", true}, {"0¤", "x", true}, {"*_0¤", "_", false},
		{"\u20660\u2069¤", "\u2066a\u2069", true}, {"¤\u20660\u2069", "\u2069", false},
		{"ab¤0;¤ba0", "a", false}, {"ab¤0;¤ba0", "aba", false}, {"ab¤0;¤ba0", "b", true}, {"ab¤0;¤ba0", "ab", true}, {"0ba¤;0¤ab", "b", false}, {"¤0;x¤-0", "x", true}, {"0¤;-0¤", "$", true},
		{"a¤0;¤a-0", "a", true}, {"'-'¤0", "x", true},
	} {
		p, ok := loc.Pattern(latin, api.Currency, x.text)
		if !ok {
			t.Error(x)
		}
		if loc.Money(latin, p, []rune(x.sign)) != x.may {
			t.Errorf("%q, %q: %v", x.text, x.sign, !x.may)
		}
	}
	p, _ := loc.Pattern(latin, api.Currency, "¤0")
	for _, sign := range [][]rune{{-1}, {0xD800}, {'a', 0x110000}} {
		if loc.Money(latin, p, sign) {
			t.Error(sign)
		}
	}
}

// P15.1: which are compact patterns, and their power.
func TestShort(t *testing.T) {
	for _, x := range []struct {
		mag, cat int
		text     string
		power    int // -1: it is none
	}{
		{4, 0, "0K", 3}, {4, 5, "0K", 3}, {5, 1, "00K", 3}, {6, 2, "000 K", 3}, {30, 0, "0Q", 29}, {30, 0, rep("0", 29) + "Q", 1}, {2, 0, "0t", 1}, {4, 0, "K0", 3}, {4, 0, "a0b", 3}, {4, 0, "0'-'", 3}, {4, 0, "0\u200E", 3}, {4, 0, "0''", 3}, {4, 0, "000k", 1},
		{1, 0, "0K", -1}, {0, 0, "0K", -1}, {31, 0, "0K", -1}, {-4, 0, "0K", -1}, {1 << 40, 0, "0K", -1}, {4, -1, "0K", -1}, {4, 6, "0K", -1}, {4, 1 << 40, "0K", -1},
		{4, 0, "0", -1}, {4, 0, "0000K", -1}, {4, 0, "00000K", -1}, {2, 0, "00K", -1}, {4, 0, "#K", -1}, {4, 0, "#0K", -1}, {4, 0, "0,0K", -1}, {4, 0, "0.0K", -1}, {4, 0, "0.#K", -1}, {4, 0, "@K", -1}, {4, 0, "0E0K", -1}, {4, 0, "*x0K", -1}, {4, 0, "0K*x", -1},
		{4, 0, "0K;-0K", -1}, {4, 0, "0K;(0K)", -1}, {4, 0, "0%", -1}, {4, 0, "0K%", -1}, {4, 0, "¤0K", -1}, {4, 0, "-0K", -1}, {4, 0, "0+", -1}, {4, 0, "", -1}, {4, 0, "K", -1}, {4, 0, "0'K", -1}, {4, 0, "0\xff", -1},
		{4, 0, "0'.'", -1}, {4, 0, "0'E'", -1}, {4, 0, "0'5'", -1}, {4, 0, "0\u2066", -1}, {4, 0, "0\n", -1}, {4, 0, "\u20660\u2069", 3}, {4, 0, "0'" + rep("#a", 58) + "'", -1},
	} {
		c := api.Comp{Mag: x.mag, Cat: x.cat, Pat: x.text}
		p, ok := loc.Short(latin, c)
		want, _, _ := pat.Parse(x.text)
		if !ok {
			want = api.Pat{}
		}
		if ok != (x.power >= 0) || !pat.Same(p, want) {
			t.Error(c, p, ok)
		}
		if ok && loc.Power(c, p) != x.power {
			t.Error(c, loc.Power(c, p))
		}
	}
}

// P15.2, P15.3: good locales.
func TestGood(t *testing.T) {
	for _, l := range samples.All() {
		if part, at, e := loc.Check(l); part != 0 || at != 0 || e != api.OK {
			t.Error(l.Tag, part, at, e)
		}
		for style, text := range l.Pats {
			if _, ok := loc.Pattern(l.S, style, text); !ok {
				t.Error(l.Tag, style)
			}
		}
		for _, c := range l.Comps {
			if _, ok := loc.Short(l.S, c); !ok || !slices.ContainsFunc(l.Comps, func(x api.Comp) bool { return x.Mag == c.Mag && x.Cat == api.Other }) {
				t.Error(l.Tag, c)
			}
		}
	}
}

// fault is a change of a good locale, and what Check tells then.
type fault struct {
	change   func(l *api.Locale)
	part, at int
}

func (f fault) test(t *testing.T, i int) {
	t.Helper()
	l := samples.Latin()
	f.change(&l)
	e := api.ErrBad
	if f.part == 0 {
		e = api.OK
	}
	if part, at, err := loc.Check(l); part != f.part || at != f.at || err != e {
		t.Errorf("%d: %d, %d, %d, not %d, %d", i, part, at, err, f.part, f.at)
	}
}

// P15.2: tags, signs, patterns, and rules that are wrong.
func TestCheckFirstParts(t *testing.T) {
	for i, f := range []fault{
		{func(l *api.Locale) { l.Tag = "" }, 1, 0}, {func(l *api.Locale) { l.Tag = "a_b" }, 1, 0}, {func(l *api.Locale) { *l = api.Locale{} }, 1, 0},
		{func(l *api.Locale) { *l = api.Locale{Tag: "a"} }, 2, 0}, {func(l *api.Locale) { l.S.Zero = '1' }, 2, 0}, {func(l *api.Locale) { l.S.Plus = l.S.Minus }, 2, 0}, {func(l *api.Locale) { l.S.Exp = '\n' }, 2, 0},
		{func(l *api.Locale) { l.Pats[0] = "0%" }, 3, 0}, {func(l *api.Locale) { l.Pats[1] = "0" }, 3, 1}, {func(l *api.Locale) { l.Pats[2] = "0" }, 3, 2}, {func(l *api.Locale) { l.Pats[3] = "" }, 3, 3}, {func(l *api.Locale) { l.Pats[1], l.Pats[3] = "", "" }, 3, 1},
		{func(l *api.Locale) { l.Rules[0].Cat = 0 }, 4, 0}, {func(l *api.Locale) { l.Rules[0].Text = "x" }, 4, 0}, {func(l *api.Locale) {
			l.Rules = append(l.Rules, api.Rule{Cat: 5, Text: "n = 5"}, api.Rule{Cat: 3, Text: "n = 3"})
		}, 4, 2}, {func(l *api.Locale) { l.Rules = nil }, 0, 0},
		{func(l *api.Locale) { l.Rules = append(l.Rules, api.Rule{Cat: 5, Text: "n = "}) }, 4, 1},
		{func(l *api.Locale) { l.Tag, l.S.Zero, l.Pats[0] = "", 0, "" }, 1, 0}, {func(l *api.Locale) { l.S.Zero, l.Pats[0] = 0, "" }, 2, 0}, {func(l *api.Locale) { l.Pats[2], l.Rules[0].Text = "", "" }, 3, 2}, {func(l *api.Locale) { l.Rules[0].Text, l.Curs[1].Code = "", "" }, 4, 0},
	} {
		f.test(t, i)
	}
}

// P15.2: currencies that are wrong.
func TestCheckCurrencies(t *testing.T) {
	for i, f := range []fault{
		{func(l *api.Locale) { l.Curs = nil }, 0, 0}, {func(l *api.Locale) { l.Curs[0].Code = "EU" }, 5, 0}, {func(l *api.Locale) { l.Curs[1].Code = "JPYX" }, 5, 1}, {func(l *api.Locale) { l.Curs[1].Code = "jpy" }, 5, 1}, {func(l *api.Locale) { l.Curs[0].Code = "" }, 5, 0}, {func(l *api.Locale) { l.Curs[2].Code = "T1D" }, 5, 2}, {func(l *api.Locale) { l.Curs[3].Code = "Ué" }, 5, 3},
		{func(l *api.Locale) { l.Curs[1].Code = "EUR" }, 5, 1}, {func(l *api.Locale) { l.Curs[2].Code = "AAA" }, 5, 2}, {func(l *api.Locale) { l.Curs[0], l.Curs[1] = l.Curs[1], l.Curs[0] }, 5, 1}, {func(l *api.Locale) { l.Curs[0].Code = "EU[" }, 5, 0}, {func(l *api.Locale) { l.Curs[0].Code = "@UR" }, 5, 0},
		{func(l *api.Locale) { l.Curs[0].Digits = -1 }, 5, 0}, {func(l *api.Locale) { l.Curs[3].Digits = 5 }, 5, 3}, {func(l *api.Locale) { l.Curs[3].Digits = 1 << 40 }, 5, 3}, {func(l *api.Locale) { l.Curs[3].Digits = 4 }, 0, 0}, {func(l *api.Locale) { l.Curs[0].Digits = 0 }, 0, 0},
		{func(l *api.Locale) { l.Curs[2].Sign = "\xff" }, 5, 2}, {func(l *api.Locale) { l.Curs[2].Sign = "" }, 5, 2}, {func(l *api.Locale) { l.Curs[2].Sign = "5" }, 5, 2}, {func(l *api.Locale) { l.Curs[2].Sign = rep("é", 21) }, 5, 2}, {func(l *api.Locale) { l.Curs[2].Sign = rep("é", 20) }, 0, 0}, {func(l *api.Locale) { l.Curs[2].Sign = "\u202A" }, 5, 2},
		{func(l *api.Locale) { l.Curs[2].Sign, l.Curs[1].Digits = "", 7 }, 5, 1}, {func(l *api.Locale) { l.Curs[3].Sign, l.Comps[0].Pat = "", "" }, 5, 3}, {func(l *api.Locale) { l.Pats[3] = "¤*€0" }, 5, 0}, {func(l *api.Locale) { l.Pats[3] = "¤*$0" }, 5, 3},
		{func(l *api.Locale) { l.Curs = curs(100) }, 0, 0}, {func(l *api.Locale) { l.Curs = curs(101) }, 5, 100}, {func(l *api.Locale) { l.Curs = curs(250) }, 5, 100}, {func(l *api.Locale) { l.Curs = curs(120); l.Curs[7].Sign = "" }, 5, 7}, {func(l *api.Locale) { l.Curs = curs(101); l.Curs[100].Sign = "" }, 5, 100},
	} {
		f.test(t, i)
	}
}

// curs are n currencies.
func curs(n int) []api.Cur {
	var out []api.Cur
	for i := range n {
		out = append(out, api.Cur{Code: string([]rune{'A', rune('A' + i/26), rune('A' + i%26)}), Sign: "$"})
	}
	return out
}

// comps are n compact patterns, six of each Mag.
func comps(n int) []api.Comp {
	var out []api.Comp
	for i := range n {
		out = append(out, api.Comp{Mag: 2 + i/6, Cat: i % 6, Pat: fmt.Sprintf("0a%c%c", 'a'+i/26, 'a'+i%26)})
	}
	return out
}

// P15.2: compact patterns that are wrong.
func TestCheckCompacts(t *testing.T) {
	for i, f := range []fault{
		{func(l *api.Locale) { l.Comps = nil }, 0, 0}, {func(l *api.Locale) { l.Comps[0].Pat = "0" }, 6, 0}, {func(l *api.Locale) { l.Comps[3].Mag = 31 }, 6, 3}, {func(l *api.Locale) { l.Comps[1].Cat = 6 }, 6, 1}, {func(l *api.Locale) { l.Comps[6].Pat = "#0M" }, 6, 6},
		{func(l *api.Locale) { l.Comps[1].Cat = 0 }, 6, 1}, {func(l *api.Locale) { l.Comps[2].Mag = 4 }, 6, 2}, {func(l *api.Locale) { l.Comps[4], l.Comps[3] = l.Comps[3], l.Comps[4] }, 6, 4}, {func(l *api.Locale) { l.Comps[0].Cat = 2 }, 6, 0}, {func(l *api.Locale) { l.Comps[2].Cat = 1 }, 6, 2}, {func(l *api.Locale) { l.Comps = l.Comps[1:] }, 6, 0}, {func(l *api.Locale) { l.Comps[4].Cat, l.Comps[5].Cat = 1, 2 }, 6, 4},
		{func(l *api.Locale) { l.Comps[1].Pat = "00 thousand" }, 6, 1}, {func(l *api.Locale) { l.Comps[5].Pat = "00 xyz" }, 6, 5}, {func(l *api.Locale) { l.Comps[0].Cat, l.Comps[1].Cat = 1, 0 }, 6, 0},
		{func(l *api.Locale) { l.Comps = comps(90) }, 0, 0}, {func(l *api.Locale) { l.Comps = comps(91) }, 6, 90}, {func(l *api.Locale) { l.Comps = comps(150) }, 6, 90}, {func(l *api.Locale) { l.Comps = comps(91); l.Comps[8].Pat = "0" }, 6, 8}, {func(l *api.Locale) { l.Comps = comps(91); l.Comps[90].Pat = "0" }, 6, 90},
		{func(l *api.Locale) { l.Comps[6].Pat, l.Comps[1].Pat = "0", "0 millions" }, 6, 6},
	} {
		f.test(t, i)
	}
}

// P15.2: compact patterns that can be confused.
func TestCheckConfused(t *testing.T) {
	for i, f := range []fault{
		// Of other powers the same runes; of one power that may be.
		{func(l *api.Locale) { l.Comps[4].Pat = "0 thousands" }, 7, 4}, {func(l *api.Locale) { l.Comps[4].Pat = "0 thousand" }, 7, 4}, {func(l *api.Locale) { l.Comps[1].Pat = "0 thousands" }, 0, 0}, {func(l *api.Locale) { l.Comps[2].Pat = "0 thousands" }, 7, 2}, {func(l *api.Locale) { l.Comps[6].Pat = "00 thousands" }, 7, 6}, {func(l *api.Locale) { l.Comps[2].Pat = "00 thousand" }, 0, 0},
		{func(l *api.Locale) { l.Comps[5].Pat, l.Comps[3].Pat = "0 thousands", "00 thousands" }, 7, 3}, {func(l *api.Locale) { l.Comps[4].Pat = "thousands0" }, 0, 0},
		// With the Decimal pattern.
		{func(l *api.Locale) { l.Pats[0] = "0 millions" }, 7, 4}, {func(l *api.Locale) { l.Pats[0] = "0 thousand" }, 7, 1}, {func(l *api.Locale) { l.Pats[0] = "0 thousands" }, 7, 0}, {func(l *api.Locale) { l.Pats[0] = "0 xyz" }, 0, 0},
		{func(l *api.Locale) { l.Pats[0] = "0t"; l.Comps = []api.Comp{{Mag: 2, Pat: "0t"}} }, 7, 0}, {func(l *api.Locale) { l.Pats[0] = "0t"; l.Comps = []api.Comp{{Mag: 3, Pat: "00t"}} }, 7, 0}, {func(l *api.Locale) { l.Pats[0] = "0"; l.Comps = []api.Comp{{Mag: 2, Pat: "0t"}, {Mag: 3, Pat: "00t"}} }, 0, 0},
		// A minus that another one has as a rune of its own: at another power, and at its own one.
		{func(l *api.Locale) { l.Comps[0].Pat = "'-'0 millions" }, 7, 4}, {func(l *api.Locale) { l.Comps[1].Pat = "'-'0 thousands" }, 7, 1}, {func(l *api.Locale) { l.Comps[0].Pat = "'-'0" }, 7, 0}, {func(l *api.Locale) { l.Comps[0].Pat = "'--'0" }, 0, 0},
		{func(l *api.Locale) { l.Pats[0] = "0;x0"; l.Comps[0].Pat = "x0" }, 7, 0}, {func(l *api.Locale) { l.Pats[0] = "0;x0"; l.Comps[0].Pat = "'-'0" }, 0, 0},
		// A plus: held against minus, and against plus, but not against none.
		{func(l *api.Locale) { l.Comps[0].Pat = "'+'0" }, 0, 0}, {func(l *api.Locale) { l.Pats[0] = "0;-+0" }, 3, 0}, {func(l *api.Locale) { l.Pats[0] = "0;'+-'0"; l.Comps[0].Pat = "'-'0" }, 7, 0}, {func(l *api.Locale) { l.Pats[0] = "0;'-+'0"; l.Comps[0].Pat = "'+'0" }, 7, 0},
		{func(l *api.Locale) { l.Comps[4].Pat = "'+'0 thousands" }, 0, 0}, {func(l *api.Locale) { l.Comps[0].Pat = "'+'0 millions" }, 0, 0},
		{func(l *api.Locale) { l.Pats[0] = "0x;y-0x"; l.Comps[0].Pat = "y'+'0x" }, 0, 0}, {func(l *api.Locale) { l.Pats[0] = "0x;'+y'-0x"; l.Comps[0].Pat = "'y-'0x" }, 7, 0}, {func(l *api.Locale) { l.Pats[0] = "0x;'+'y-0x"; l.Comps[0].Pat = "'y+'0x" }, 7, 0},
	} {
		f.test(t, i)
	}
}

// P15.2: confusing is held against all pairs, told once more.
func TestConfusedModel(t *testing.T) {
	texts := []string{"0a", "a0", "'-'0a", "'+'0a", "'--'0a", "'+-'0a", "'-'0", "'+'0", "0b", "'-+'0"}
	for _, decimal := range []string{"0", "0a", "0;x0", "0;a0", "0;'-+'0", "0b;'+'0b", "0;'-'-0", "0;-0a", "0a;a0-"} {
		for _, x := range texts {
			for _, y := range texts {
				l := samples.Latin()
				l.Pats[0], l.Curs = decimal, nil
				l.Comps = []api.Comp{{Mag: 4, Pat: x}, {Mag: 4, Cat: 1, Pat: y}, {Mag: 6, Pat: y + "c"}}
				want := model(l)
				part, at, _ := loc.Check(l)
				if _, ok := loc.Pattern(l.S, 0, decimal); !ok && part == 3 {
					continue
				}
				if want < 0 && part != 0 || want >= 0 && (part != 7 || at != want) {
					t.Error(decimal, x, y, part, at, want)
				}
			}
		}
	}
}

// model is the first compact pattern that can be confused; -1, if there is none.
func model(l api.Locale) int {
	p, _ := loc.Pattern(l.S, 0, l.Pats[0])
	pats, powers := []api.Pat{p}, []int{0}
	for i, c := range l.Comps {
		p, _ := loc.Short(l.S, c)
		pats, powers = append(pats, p), append(powers, loc.Power(c, p))
		for j := range pats {
			for _, s := range [][2]int{{0, 0}, {0, 1}, {1, 0}, {1, 1}, {1, 2}, {2, 1}, {2, 2}} {
				must := powers[j] != powers[i+1] || (s[0] == 1) != (s[1] == 1)
				if must && affix.Same(affix.Of(pats[j], l.S, s[0], nil), affix.Of(pats[i+1], l.S, s[1], nil)) {
					return i
				}
			}
		}
	}
	return -1
}

// P15.1: all of two is held against each other.
func TestSame(t *testing.T) {
	for i, change := range []func(l *api.Locale){
		func(l *api.Locale) { l.Tag = "en" }, func(l *api.Locale) { l.S.Zero++ }, func(l *api.Locale) { l.S.Dec++ }, func(l *api.Locale) { l.S.Group++ }, func(l *api.Locale) { l.S.Minus++ }, func(l *api.Locale) { l.S.Plus++ }, func(l *api.Locale) { l.S.Percent++ }, func(l *api.Locale) { l.S.Exp++ },
		func(l *api.Locale) { l.Pats[0] += "a" }, func(l *api.Locale) { l.Pats[1] += "a" }, func(l *api.Locale) { l.Pats[2] += "a" }, func(l *api.Locale) { l.Pats[3] += "a" },
		func(l *api.Locale) { l.Rules = nil }, func(l *api.Locale) { l.Rules[0].Cat++ }, func(l *api.Locale) { l.Rules[0].Text += " " }, func(l *api.Locale) { l.Rules = append(l.Rules, l.Rules[0]) },
		func(l *api.Locale) { l.Curs = l.Curs[1:] }, func(l *api.Locale) { l.Curs[1].Code = "AAA" }, func(l *api.Locale) { l.Curs[1].Sign = "x" }, func(l *api.Locale) { l.Curs[1].Digits++ },
		func(l *api.Locale) { l.Comps = l.Comps[:3] }, func(l *api.Locale) { l.Comps[1].Mag++ }, func(l *api.Locale) { l.Comps[1].Cat++ }, func(l *api.Locale) { l.Comps[1].Pat += "x" }, func(l *api.Locale) { l.Comps[0], l.Comps[1] = l.Comps[1], l.Comps[0] },
	} {
		l := samples.Latin()
		change(&l)
		if loc.Same(l, samples.Latin()) || loc.Same(samples.Latin(), l) || !loc.Same(l, l) {
			t.Error(i)
		}
	}
	if !loc.Same(samples.Latin(), samples.Latin()) || !loc.Same(api.Locale{}, api.Locale{Rules: []api.Rule{}, Curs: []api.Cur{}, Comps: []api.Comp{}}) {
		t.Error("the same aren't")
	}
}

// P15.3: a currency's runes of a good locale are calm.
func TestMoneyIsCalm(t *testing.T) {
	for _, l := range samples.All() {
		p, _ := loc.Pattern(l.S, api.Currency, l.Pats[api.Currency])
		for _, c := range l.Curs {
			if !loc.Money(l.S, p, []rune(c.Sign)) || !sym.Calm(l.S, []rune(c.Sign)) {
				t.Error(l.Tag, c)
			}
		}
		if _, _, e := plur.Read(l.Rules); e != api.OK {
			t.Error(l.Tag)
		}
	}
}
