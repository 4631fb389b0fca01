package pat_test

import (
	"strings"
	"testing"

	"exergue/api"
	"exergue/pat"
)

func rep(s string, n int) string { return strings.Repeat(s, n) }

// toks are pieces: of each rune of s a TRune.
func toks(s string) []api.Tok {
	var out []api.Tok
	for _, r := range s {
		out = append(out, api.Tok{R: r})
	}
	return out
}

func kinds(l ...int) []api.Tok {
	var out []api.Tok
	for _, k := range l {
		out = append(out, api.Tok{Kind: k})
	}
	return out
}

func join(l ...[]api.Tok) []api.Tok {
	var out []api.Tok
	for _, x := range l {
		out = append(out, x...)
	}
	return out
}

// known are texts and their patterns; where a text isn't its pattern's own, that stands beside it.
var known = []struct {
	s, own string
	p      api.Pat
}{
	{"0", "", api.Pat{MinInt: 1}},
	{"#", "", api.Pat{Hash: 1}},
	{"##00", "", api.Pat{Hash: 2, MinInt: 2}},
	{"#,##0", "", api.Pat{Hash: 3, MinInt: 1, G1: 3, G2: 3}},
	{"#,##0.00", "", api.Pat{Hash: 3, MinInt: 1, G1: 3, G2: 3, MinFrac: 2, MaxFrac: 2}},
	{"#,##,##0.###", "", api.Pat{Hash: 5, MinInt: 1, G1: 3, G2: 2, MaxFrac: 3}},
	{"#,##,##,##0.0#", "", api.Pat{Hash: 7, MinInt: 1, G1: 3, G2: 2, MinFrac: 1, MaxFrac: 2}},
	{"####,##0", "#,###,##0", api.Pat{Hash: 6, MinInt: 1, G1: 3, G2: 3}},
	{"####,##,##0", "##,##,##,##0", api.Pat{Hash: 8, MinInt: 1, G1: 3, G2: 2}},
	{"##,#,##0", "#,#,#,##0", api.Pat{Hash: 5, MinInt: 1, G1: 3, G2: 1}},
	{"#,#", "", api.Pat{Hash: 2, G1: 1, G2: 1}},
	{"0,0,00", "", api.Pat{MinInt: 4, G1: 2, G2: 1}},
	{"#,0", "", api.Pat{Hash: 1, MinInt: 1, G1: 1, G2: 1}},
	{"#,##,##", "", api.Pat{Hash: 5, G1: 2, G2: 2}},
	{"#,###,#", "#,###,#", api.Pat{Hash: 5, G1: 1, G2: 3}},
	{"0.#", "", api.Pat{MinInt: 1, MaxFrac: 1}},
	{"#.0", "", api.Pat{Hash: 1, MinFrac: 1, MaxFrac: 1}},
	{"@", "", api.Pat{MinSig: 1, MaxSig: 1}},
	{"@@#", "", api.Pat{MinSig: 2, MaxSig: 3}},
	{"@##E00", "", api.Pat{MinSig: 1, MaxSig: 3, Exp: 2}},
	{"0E0", "", api.Pat{MinInt: 1, Exp: 1}},
	{"0.00#E+00", "", api.Pat{MinInt: 1, MinFrac: 2, MaxFrac: 3, Exp: 2, ExpPlus: true}},
	{"#,##0E0", "", api.Pat{Hash: 3, MinInt: 1, G1: 3, G2: 3, Exp: 1}},
	{"0;0", "", api.Pat{MinInt: 1, Neg: true}},
	{"#,##0.00;(#,##0.00)", "", api.Pat{Hash: 3, MinInt: 1, G1: 3, G2: 3, MinFrac: 2, MaxFrac: 2, Neg: true, NPre: toks("("), NSuf: toks(")")}},
	{"####,##0;-####,##0x", "#,###,##0;-#,###,##0x", api.Pat{Hash: 6, MinInt: 1, G1: 3, G2: 3, Neg: true, NPre: kinds(api.TMinus), NSuf: toks("x")}},
	{"@#E+0;@#E+0-", "", api.Pat{MinSig: 1, MaxSig: 2, Exp: 1, ExpPlus: true, Neg: true, NSuf: kinds(api.TMinus)}},
	{"0%", "", api.Pat{MinInt: 1, Suf: kinds(api.TPercent)}},
	{"-+%¤0¤%+-", "", api.Pat{MinInt: 1, Pre: kinds(1, 2, 3, 4), Suf: kinds(4, 3, 2, 1)}},
	{"¤ 0", "", api.Pat{MinInt: 1, Pre: join(kinds(4), toks(" "))}},
	{"ab0é€", "", api.Pat{MinInt: 1, Pre: toks("ab"), Suf: toks("é€")}},
	{"(0)", "", api.Pat{MinInt: 1, Pre: toks("("), Suf: toks(")")}},
	{"''0", "", api.Pat{MinInt: 1, Pre: toks("'")}},
	{"0''''", "", api.Pat{MinInt: 1, Suf: toks("''")}},
	{"'#'0", "", api.Pat{MinInt: 1, Pre: toks("#")}},
	{"'a'0", "a0", api.Pat{MinInt: 1, Pre: toks("a")}},
	{"'a#b'0", "a'#'b0", api.Pat{MinInt: 1, Pre: toks("a#b")}},
	{"'#''#'0", "", api.Pat{MinInt: 1, Pre: toks("#'#")}},
	{"'#'''0", "", api.Pat{MinInt: 1, Pre: toks("#'")}},
	{"'#''''-'0", "", api.Pat{MinInt: 1, Pre: toks("#''-")}},
	{"'''#'0", "", api.Pat{MinInt: 1, Pre: toks("'#")}},
	{"'#'a''0", "", api.Pat{MinInt: 1, Pre: toks("#a'")}},
	{"'#'''a0", "", api.Pat{MinInt: 1, Pre: toks("#'a")}},
	{"'#'''-0", "", api.Pat{MinInt: 1, Pre: join(toks("#'"), kinds(api.TMinus))}},
	{"'a''b'0", "a''b0", api.Pat{MinInt: 1, Pre: toks("a'b")}},
	{"'-'-'+%¤'0'E5.,;*@'", "", api.Pat{MinInt: 1, Pre: join(toks("-"), kinds(api.TMinus), toks("+%¤")), Suf: toks("E5.,;*@")}},
	{"'1''23'0", "", api.Pat{MinInt: 1, Pre: toks("1'23")}},
	{"'9'0'1'", "", api.Pat{MinInt: 1, Pre: toks("9"), Suf: toks("1")}},
	{"' '0", " 0", api.Pat{MinInt: 1, Pre: toks(" ")}},
	{"'-''+'0;'-''+'0", "", api.Pat{MinInt: 1, Pre: toks("-'+"), Neg: true, NPre: toks("-'+")}},
	{"*x0", "", api.Pat{MinInt: 1, Pad: 'x', PadAt: api.PadAhead}},
	{"*xa0", "", api.Pat{MinInt: 1, Pre: toks("a"), Pad: 'x', PadAt: api.PadAhead}},
	{"a*x0", "", api.Pat{MinInt: 1, Pre: toks("a"), Pad: 'x', PadAt: api.PadPre}},
	{"0*x", "", api.Pat{MinInt: 1, Pad: 'x', PadAt: api.PadSuf}},
	{"0*xa", "", api.Pat{MinInt: 1, Suf: toks("a"), Pad: 'x', PadAt: api.PadSuf}},
	{"0a*x", "", api.Pat{MinInt: 1, Suf: toks("a"), Pad: 'x', PadAt: api.PadBehind}},
	{"*'0", "", api.Pat{MinInt: 1, Pad: '\'', PadAt: api.PadAhead}},
	{"*'''0", "", api.Pat{MinInt: 1, Pre: toks("'"), Pad: '\'', PadAt: api.PadAhead}},
	{"**0", "", api.Pat{MinInt: 1, Pad: '*', PadAt: api.PadAhead}},
	{"*#0", "", api.Pat{MinInt: 1, Pad: '#', PadAt: api.PadAhead}},
	{"0*;;0", "", api.Pat{MinInt: 1, Pad: ';', PadAt: api.PadSuf, Neg: true}},
	{"-*\x000%;(0)", "", api.Pat{MinInt: 1, Pre: kinds(1), Suf: kinds(3), Pad: 0, PadAt: api.PadPre, Neg: true, NPre: toks("("), NSuf: toks(")")}},
	{rep("#", 40), "", api.Pat{Hash: 40}},
	{rep("#", 20) + rep("0", 20) + "." + rep("0", 30) + rep("#", 10) + "E" + rep("0", 19), "", api.Pat{Hash: 20, MinInt: 20, MinFrac: 30, MaxFrac: 40, Exp: 19}},
	{rep("@", 30) + rep("#", 10) + "E+" + rep("0", 40), "", api.Pat{MinSig: 30, MaxSig: 40, Exp: 40, ExpPlus: true}},
}

// P10.1, P10.2: texts of patterns are read, and patterns have their texts.
func TestKnown(t *testing.T) {
	for _, x := range known {
		p, at, e := pat.Parse(x.s)
		if e != api.OK || at != 0 || !pat.Same(p, x.p) {
			t.Errorf("%q: %+v, %d, %d", x.s, p, at, e)
			continue
		}
		own := x.own
		if own == "" {
			own = x.s
		}
		if got := pat.Text(x.p); got != own || !pat.Right(x.p) {
			t.Errorf("%q: %q, %v", x.s, got, pat.Right(x.p))
		}
		if back, _, e := pat.Parse(own); e != api.OK || !pat.Same(back, x.p) {
			t.Errorf("%q: %+v", own, back)
		}
	}
}

// P10.1: where it can't go on.
func TestFaults(t *testing.T) {
	for s, place := range map[string]int{
		"": 0, "a": 1, "abc": 3, "-": 1, "¤": 1, ",": 0, ",0": 0, ".0": 0, "é.0": 1, ";": 0, "5": 0, "a5": 1, "9": 0, "a9": 1, "09": 1, "1": 0, "E0": 0, "%;": 1, "*": 1, "*x": 2, "a*": 2, "a*x": 3,
		"0#": 1, "00#0": 2, "0@": 1, "#@": 1, "@0": 1, "@,@": 1, "@.0": 1, "@#@": 2, "@#0": 2, "01": 1, "0 0": 2, "0a#": 2, "05": 1,
		"0.": 2, "0.a": 2, "0.#0": 3, "0..0": 2, "0.0.0": 3, "0.,0": 2, "0.0,0": 3, "#.": 2, "0.@": 2, "0.;0": 2, "0.E0": 2,
		"0E": 2, "0E+": 3, "0E-0": 2, "0Ea": 2, "0E#": 2, "0E+#": 3, "0E0#": 3, "0E0E0": 3, "0E0.0": 3, "0E++0": 3, "@E": 2, "@E1": 2, "0.0E": 4, "0E0+0": 4,
		"#,": 1, "0,": 1, "#,,##0": 1, "#,.0": 1, "#,a": 1, "0,#": 1, "#0,#": 2, "#,##0,": 5, "#,##0,#": 5, "#,*x": 1, "#,;#,": 1, "#,E0": 1, "#,'a'": 1, "#,@": 1,
		"#,#,##,##0": 6, "#,##,#,##0": 6, "##,###,##,0": 9, "#,###,##,0": 8, "#,##,##,#,0": 9, "#,#,##,": 6,
		"'": 0, "'a": 0, "a'": 1, "0'": 1, "0'ab": 1, "0a'#0;0": 2, "'a''": 0, "'a''0": 0, "'''": 2, "'''0": 2, "0'''": 3, "0;'0": 2, "0;0'": 3, "'#'0'": 4,
		"0;": 2, "0;-": 3, "0;#": 2, "0;00": 3, "00;0": 4, "#,##0;##0": 7, "#,##0;#,##": 10, "#,##0;#,#0": 9, "0.0;0": 5, "0.0;0.#": 6, "0;0.0": 3, "0E0;0": 5, "0E0;0E+0": 6,
		"0;0;0": 3, "0;;0": 2, "0;*x0": 2, "0;0*x": 3, "0;a*x0": 3, "@;#": 2, "@#;@": 4, "0;-1": 3,
		"*x*y0": 2, "***0": 2, "*xa*y0": 3, "a*xb0": 3, "*x0*y": 3, "0*x*y": 3, "0*xa*y": 4, "0a*xb": 4, "0a*x*y": 4, "a*x0*y": 4, "0a*": 3, "0*": 2, "a*xb": 3,
		"0*x0": 3, "0*x.0": 3, "#*x0": 3,
	} {
		if p, at, e := pat.Parse(s); e != api.ErrForm || at != place || !pat.Same(p, api.Pat{}) {
			t.Errorf("%q: %+v, %d, %d", s, p, at, e)
		}
	}
}

// P10.1: what is no UTF-8, and what is too much.
func TestTooMuch(t *testing.T) {
	for s, place := range map[string]int{"\xff": 0, "é\x80": 2, "0\xc3": 1, "'\xed\xa0\x80": 1, "€a\xf5": 4, rep("é", 130) + "\xff": 260} {
		if p, at, e := pat.Parse(s); e != api.ErrUtf || at != place || !pat.Same(p, api.Pat{}) {
			t.Errorf("%q: %+v, %d, %d", s, p, at, e)
		}
	}
	for _, s := range []string{
		rep("a", 120) + "0", rep("é", 121), rep("'", 121), rep("#", 121), rep(";", 200),
		rep("#", 41), rep("0", 41), rep("#", 40) + "0", "#" + rep("0", 40), "0." + rep("0", 41), "0." + rep("#", 41), "0." + rep("0", 40) + "#",
		rep("@", 41), "@" + rep("#", 40), "0E" + rep("0", 41), "@E+" + rep("0", 41), rep("#", 100), "0;-0" + rep("a", 117), rep("0", 41) + ";" + rep("0", 41),
	} {
		if p, at, e := pat.Parse(s); e != api.ErrFull || at != 0 || !pat.Same(p, api.Pat{}) {
			t.Errorf("%q: %+v, %d, %d", s, p, at, e)
		}
	}
	for _, s := range []string{rep("é", 119) + "0", "0" + rep("€", 119), rep("#", 40) + "." + rep("#", 40) + "E" + rep("0", 38), rep("''", 59) + "0"} {
		if _, at, e := pat.Parse(s); e != api.OK || at != 0 {
			t.Errorf("%q: %d, %d", s, at, e)
		}
	}
	if _, at, e := pat.Parse(rep("#", 50) + ";"); e != api.ErrForm || at != 51 {
		t.Error(at, e)
	}
}

// P10.2: a number's text, and how wide a pattern is.
func TestNumberAndWidth(t *testing.T) {
	for _, x := range []struct {
		s, number string
		width     int
	}{
		{"0", "0", 1}, {"$#,##0.00", "#,##0.00", 9}, {"####,##0", "#,###,##0", 9}, {"-*x@@#E+0'%%'", "@@#E+0", 9}, {"'#'''0;(0)", "0", 3},
		{"*xab0.0#cd;-0.0#", "0.0#", 8}, {"¤¤0¤", "0", 4}, {"#,##,##0.###E00", "#,##,##0.###E00", 15}, {"éé0", "0", 3}, {"''0''", "0", 3},
	} {
		p, at, e := pat.Parse(x.s)
		if e != api.OK || pat.Number(p) != x.number || pat.Width(p) != x.width {
			t.Errorf("%q: %d, %d, %q, %d", x.s, at, e, pat.Number(p), pat.Width(p))
		}
	}
}

// P10.2: what isn't right.
func TestWrong(t *testing.T) {
	far := 1<<63 - 1
	for i, p := range []api.Pat{
		{}, {Hash: -1, MinInt: 1}, {MinInt: -1}, {MinInt: 1, MinFrac: 1}, {MinInt: 1, MinFrac: 2, MaxFrac: 1}, {MinInt: 1, MaxFrac: -1}, {MaxFrac: 1}, {MinInt: 1, MinFrac: -1, MaxFrac: 1},
		{MinInt: 1, G1: 3, G2: 3}, {Hash: 3, MinInt: 1, G1: 3}, {Hash: 3, MinInt: 1, G1: 3, G2: 2}, {Hash: 3, MinInt: 1, G2: 3}, {Hash: 3, MinInt: 1, G1: -1}, {Hash: 5, MinInt: 1, G1: 3, G2: -2}, {Hash: 3, MinInt: 1, G1: 4, G2: 4},
		{MinSig: 1}, {MaxSig: 1}, {MinSig: 2, MaxSig: 1}, {MinSig: 1, MaxSig: 1, MinInt: 1}, {MinSig: 1, MaxSig: 1, MaxFrac: 1}, {MinSig: 1, MaxSig: 1, Hash: 1}, {MinSig: -1, MaxSig: 2}, {MinSig: 1, MaxSig: 1, G1: 1, G2: 1},
		{MinInt: 1, Exp: -1}, {MinInt: 1, ExpPlus: true}, {MinInt: 1, Pad: 'x'}, {MinInt: 1, Pad: 'x', PadAt: 5}, {MinInt: 1, Pad: 'x', PadAt: -1}, {MinInt: 1, Pad: 'x', PadAt: api.PadPre}, {MinInt: 1, Pad: 'x', PadAt: api.PadBehind},
		{MinInt: 1, NPre: toks("a")}, {MinInt: 1, NSuf: kinds(1)}, {MinInt: 1, Pre: kinds(5)}, {MinInt: 1, Suf: kinds(-1)}, {MinInt: 1, Pre: []api.Tok{{Kind: 1, R: 5}}}, {MinInt: 1, Suf: []api.Tok{{Kind: 4, R: 'x'}}},
		{MinInt: 1, Pre: []api.Tok{{R: -1}}}, {MinInt: 1, Pre: []api.Tok{{R: 0xD800}}}, {MinInt: 1, Suf: []api.Tok{{R: 0x110000}}}, {MinInt: 1, Pad: 0xDFFF, PadAt: 1}, {MinInt: 1, Pad: -7, PadAt: 1},
		{MinInt: 41}, {Hash: 40, MinInt: 1}, {MinInt: 1, MaxFrac: 41}, {MinSig: 1, MaxSig: 41}, {MinInt: 1, Exp: 41},
		{MinInt: 1, Pre: toks(rep("a", 120))}, {MinInt: 1, Pre: toks(rep("'", 60))}, {MinInt: 1, Pre: toks(rep("#a", 30))}, {MinInt: 1, Pre: toks(rep("a", 60)), Neg: true, NPre: toks(rep("b", 58))},
		{Hash: far, MinInt: 1}, {MinInt: far}, {MinInt: far, Hash: far, G1: far, G2: far}, {MinInt: 1, MaxFrac: far}, {MinInt: 1, MinFrac: far, MaxFrac: far}, {MinSig: far, MaxSig: far}, {MinSig: -far - 1, MaxSig: far}, {MinInt: 1, Exp: far}, {MinInt: 1, Exp: -far - 1},
		{MinInt: 3, G1: far, G2: 1}, {MinInt: 3, G1: 1, G2: far}, {MinInt: -far - 1, Hash: 5, G1: -far - 1, G2: -far - 1},
	} {
		if pat.Right(p) {
			t.Errorf("%d: %+v, %q", i, p, pat.Text(p))
		}
	}
	for i, p := range []api.Pat{{MinInt: 1, Pre: toks(rep("a", 119))}, {MinInt: 1, Pre: toks(rep("'", 59))}, {MinInt: 1, Pre: toks(rep("#", 117))}, {MinInt: 1, Pre: toks(rep("a", 60)), Neg: true, NPre: toks(rep("b", 57))}, {MinInt: 1, Pad: 0xFFFD, PadAt: 1}} {
		if !pat.Right(p) {
			t.Errorf("%d: %+v, %q", i, p, pat.Text(p))
		}
	}
	// What is read may be told by a longer text of its own.
	if p, _, e := pat.Parse("'" + rep("#a", 58) + "'0"); e != api.OK || pat.Right(p) {
		t.Error(p, e)
	}
}

// P10.2: all of two is held against each other.
func TestSame(t *testing.T) {
	full := func() api.Pat {
		return api.Pat{Pre: toks("a"), Suf: toks("b"), NPre: toks("c"), NSuf: toks("d"), Neg: true, Hash: 1, MinInt: 2, MinFrac: 3, MaxFrac: 4, G1: 5, G2: 6, MinSig: 7, MaxSig: 8, Exp: 9, ExpPlus: true, Pad: 10, PadAt: 11}
	}
	for i, change := range []func(p *api.Pat){
		func(p *api.Pat) { p.Pre = toks("x") }, func(p *api.Pat) { p.Suf = toks("bb") }, func(p *api.Pat) { p.NPre = nil }, func(p *api.Pat) { p.NSuf = kinds(1) },
		func(p *api.Pat) { p.Neg = false }, func(p *api.Pat) { p.Hash++ }, func(p *api.Pat) { p.MinInt++ }, func(p *api.Pat) { p.MinFrac++ }, func(p *api.Pat) { p.MaxFrac++ },
		func(p *api.Pat) { p.G1++ }, func(p *api.Pat) { p.G2++ }, func(p *api.Pat) { p.MinSig++ }, func(p *api.Pat) { p.MaxSig++ }, func(p *api.Pat) { p.Exp++ },
		func(p *api.Pat) { p.ExpPlus = false }, func(p *api.Pat) { p.Pad++ }, func(p *api.Pat) { p.PadAt++ }, func(p *api.Pat) { p.Pre[0].Kind = 1 }, func(p *api.Pat) { p.Pre, p.Suf = p.Suf, p.Pre },
	} {
		p := full()
		change(&p)
		if pat.Same(p, full()) || pat.Same(full(), p) || !pat.Same(p, p) {
			t.Error(i)
		}
	}
	if !pat.Same(full(), full()) || !pat.Same(api.Pat{}, api.Pat{Pre: []api.Tok{}, Suf: []api.Tok{}, NPre: []api.Tok{}, NSuf: []api.Tok{}}) {
		t.Error("the same aren't")
	}
}

// P10.3: of all short texts, what is read is right, and its text is read as it; a fault's place is one up to which others go on.
func TestAllShort(t *testing.T) {
	var all func(s string, n int)
	all = func(s string, n int) {
		p, at, e := pat.Parse(s)
		switch e {
		case api.OK:
			if back, _, e := pat.Parse(pat.Text(p)); e != api.OK || !pat.Same(p, back) || !pat.Right(p) || at != 0 {
				t.Fatalf("%q: %+v, %q", s, p, pat.Text(p))
			}
		case api.ErrForm:
			if at < 0 || at > len(s) || !pat.Same(p, api.Pat{}) {
				t.Fatalf("%q: %d", s, at)
			}
			if !goesOn(s[:at]) {
				t.Fatalf("%q: %d", s, at)
			}
		default:
			t.Fatalf("%q: %d", s, e)
		}
		for _, c := range "#0@,.;*'E-a" {
			if n > 0 {
				all(s+string(c), n-1)
			}
		}
	}
	all("", 5)
}

// goesOn tells whether s begins a pattern's text.
func goesOn(s string) bool {
	for _, end := range []string{"", "0", "x0", "x", "#", ";" + s, s[strings.LastIndex(s, ";")+1:]} {
		if _, _, e := pat.Parse(s + end); e == api.OK {
			return true
		}
	}
	// The number of what stands ahead of the ; goes on behind it.
	head, tail, neg := strings.Cut(s, ";")
	for neg {
		if p, _, e := pat.Parse(head); e == api.OK {
			for i := range tail + " " {
				for _, n := range []string{pat.Number(p), head} {
					for j := range n + " " {
						if _, _, e := pat.Parse(head + ";" + tail[:i] + n[j:]); e == api.OK && strings.HasPrefix(tail[:i]+n[j:], tail) {
							return true
						}
					}
				}
			}
		}
		more, rest, found := strings.Cut(tail, ";")
		if !found {
			break
		}
		head, tail = head+";"+more, rest
	}
	return false
}

// R3: two patterns of one text share nothing.
func TestApart(t *testing.T) {
	a, _, _ := pat.Parse("ab0cd;ef0gh")
	b, _, _ := pat.Parse("ab0cd;ef0gh")
	a.Pre[0].R, a.NSuf[0].R = 'x', 'x'
	if pat.Text(b) != "ab0cd;ef0gh" {
		t.Error(pat.Text(b))
	}
	pat.Right(b)
	pat.Number(b)
	if pat.Text(b) != "ab0cd;ef0gh" {
		t.Error(pat.Text(b))
	}
}
