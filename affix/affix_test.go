package affix_test

import (
	"slices"
	"testing"

	"exergue/affix"
	"exergue/api"
)

var (
	latin  = api.Sym{Zero: '0', Dec: '.', Group: ',', Minus: '-', Plus: '+', Percent: '%', Exp: 'E'}
	arabic = api.Sym{Zero: 0x660, Dec: 0x66B, Group: 0x66C, Minus: 0x2212, Plus: 0x2795, Percent: 0x66A, Exp: 0x623}
)

// toks are pieces: of each rune of s but - + % ¤ a TRune.
func toks(s string) []api.Tok {
	var out []api.Tok
	for _, r := range s {
		kind := map[rune]int{'-': api.TMinus, '+': api.TPlus, '%': api.TPercent, '¤': api.TCur}[r]
		if kind != api.TRune {
			r = 0
		}
		out = append(out, api.Tok{Kind: kind, R: r})
	}
	return out
}

func around(pre, suf string) api.Affixes {
	return api.Affixes{Pre: []rune(pre), Suf: []rune(suf)}
}

// P14.1: what a pattern says for each sign.
func TestSigned(t *testing.T) {
	for i, x := range []struct {
		p                    api.Pat
		none, minus, plus    string
		none2, minus2, plus2 string
	}{
		{api.Pat{}, "", "-", "+", "", "", ""},
		{api.Pat{Pre: toks("a"), Suf: toks("b")}, "a", "-a", "+a", "b", "b", "b"},
		{api.Pat{Pre: toks("¤"), Suf: toks("%x")}, "¤", "-¤", "+¤", "%x", "%x", "%x"},
		{api.Pat{Pre: toks("-a"), Suf: toks("-")}, "-a", "--a", "+-a", "-", "-", "-"},
		{api.Pat{Pre: toks("a"), Suf: toks("b"), Neg: true, NPre: toks("("), NSuf: toks(")")}, "a", "(", "+a", "b", ")", "b"},
		{api.Pat{Pre: toks("a"), Suf: toks("b"), Neg: true}, "a", "", "+a", "b", "", "b"},
		{api.Pat{Pre: toks("a"), Suf: toks("b"), Neg: true, NPre: toks("x-y")}, "a", "x-y", "x+y", "b", "", ""},
		{api.Pat{Pre: toks("a"), Suf: toks("b"), Neg: true, NPre: toks("c"), NSuf: toks("d-¤-")}, "a", "c", "c", "b", "d-¤-", "d+¤+"},
		{api.Pat{Pre: toks("a"), Suf: toks("b"), Neg: true, NPre: toks("-c"), NSuf: toks("-d+")}, "a", "-c", "+c", "b", "-d+", "+d+"},
		{api.Pat{Pre: toks("a"), Suf: toks("b"), Neg: false, NPre: toks("x-"), NSuf: toks("y")}, "a", "-a", "+a", "b", "b", "b"},
		{api.Pat{Pre: toks("a"), Neg: true, NPre: toks("+")}, "a", "+", "+a", "", "", ""},
	} {
		for sign, want := range map[int][2]string{0: {x.none, x.none2}, 1: {x.minus, x.minus2}, 2: {x.plus, x.plus2}, 3: {x.none, x.none2}, -1: {x.none, x.none2}, 1 << 40: {x.none, x.none2}, -1 << 63: {x.none, x.none2}} {
			pre, suf := affix.Signed(x.p, sign)
			if !slices.Equal(pre, toks(want[0])) || !slices.Equal(suf, toks(want[1])) {
				t.Error(i, sign, pre, suf)
			}
		}
	}
	// A rune that looks like a minus isn't the piece.
	p := api.Pat{Pre: toks("a"), Neg: true, NPre: []api.Tok{{R: '-'}}}
	if pre, _ := affix.Signed(p, 2); !slices.Equal(pre, toks("+a")) {
		t.Error(pre)
	}
	p = api.Pat{Neg: true, NPre: []api.Tok{{R: '-'}, {Kind: api.TMinus}}}
	if pre, _ := affix.Signed(p, 2); !slices.Equal(pre, []api.Tok{{R: '-'}, {Kind: api.TPlus}}) {
		t.Error(pre)
	}
	// What is put in has no rune.
	p = api.Pat{Neg: true, NPre: []api.Tok{{Kind: api.TMinus, R: 7}}}
	if pre, _ := affix.Signed(p, 2); !slices.Equal(pre, []api.Tok{{Kind: api.TPlus}}) {
		t.Error(pre)
	}
}

// P14.1: how many pieces are of a kind.
func TestCount(t *testing.T) {
	l := toks("a-b-%c¤+-")
	for kind, n := range map[int]int{api.TRune: 3, api.TMinus: 3, api.TPlus: 1, api.TPercent: 1, api.TCur: 1, 5: 0, -1: 0} {
		if affix.Count(l, kind) != n {
			t.Error(kind, affix.Count(l, kind))
		}
	}
	if affix.Count(nil, 0) != 0 || affix.Count([]api.Tok{{Kind: 9}, {Kind: 9}}, 9) != 2 {
		t.Error("other ones")
	}
}

// P14.1: all of two is held against each other.
func TestSame(t *testing.T) {
	l := []api.Affixes{{}, around("a", ""), around("", "a"), around("a", "b"), around("b", "a"), around("ab", ""), around("a", "bb")}
	for i, a := range l {
		for j, b := range l {
			if affix.Same(a, b) != (i == j) {
				t.Error(a, b)
			}
		}
	}
	if !affix.Same(api.Affixes{}, around("", "")) {
		t.Error("none")
	}
}

// P14.2: pieces as runes.
func TestResolve(t *testing.T) {
	for _, x := range []struct {
		l    string
		s    api.Sym
		cur  string
		want string
	}{
		{"", latin, "$", ""}, {"ab", latin, "$", "ab"}, {"-+%¤", latin, "USD", "-+%USD"}, {"¤¤", latin, "€", "€€"}, {"a¤b", latin, "", "ab"},
		{"-a+b%c¤", arabic, "xy", "\u2212a\u2795b\u066Acxy"}, {"%%--", arabic, "", "\u066A\u066A\u2212\u2212"},
	} {
		if got := affix.Resolve(toks(x.l), x.s, []rune(x.cur)); string(got) != x.want {
			t.Error(x, string(got))
		}
	}
	odd := []api.Tok{{Kind: 5, R: 'x'}, {R: 'a'}, {Kind: -1, R: 'y'}, {Kind: 1, R: 'z'}, {R: '-'}, {R: '¤'}}
	if got := affix.Resolve(odd, arabic, []rune("c")); string(got) != "a\u2212-¤" {
		t.Error(string(got))
	}
}

// P14.2: what stands around a number of a sign.
func TestOf(t *testing.T) {
	p := api.Pat{Pre: toks("a¤"), Suf: toks("%b"), Neg: true, NPre: toks("(-"), NSuf: toks("¤)")}
	for sign, want := range map[int]api.Affixes{0: around("aEUR", "\u066Ab"), 1: around("(\u2212", "EUR)"), 2: around("(\u2795", "EUR)"), 7: around("aEUR", "\u066Ab")} {
		if got := affix.Of(p, arabic, sign, []rune("EUR")); !affix.Same(got, want) {
			t.Error(sign, got)
		}
	}
	p.Neg = false
	for sign, want := range map[int]api.Affixes{0: around("a", "%b"), 1: around("-a", "%b"), 2: around("+a", "%b")} {
		if got := affix.Of(p, latin, sign, nil); !affix.Same(got, want) {
			t.Error(sign, got)
		}
	}
}

// P14.2: which may stand beside a number.
func TestCalm(t *testing.T) {
	for i, x := range []struct {
		a    api.Affixes
		calm bool
	}{
		{around("", ""), true}, {around("$ ", " USD-"), true}, {around("\u2066", "\u2069"), true}, {around("\u2067a\u2069", "b"), true},
		{around("\u2069", "\u2066"), false}, {around("\u2066", ""), false}, {around("", "\u2066"), false}, {around("\u2066", "\u2069\u2069"), false}, {around("\u202A", "\u202C"), false},
		{around("1", ""), false}, {around("", "1"), false}, {around("a.", ""), false}, {around("", ",a"), false}, {around("E", ""), false}, {around("a", "\n"), false}, {around("\u0665", ""), false},
	} {
		if affix.Calm(latin, x.a) != x.calm {
			t.Error(i, x)
		}
	}
	if !affix.Calm(arabic, around("E.", ",")) || affix.Calm(arabic, around("", "\u066C")) {
		t.Error("other signs")
	}
}

// P14.3: what stands around is parted off.
func TestSplit(t *testing.T) {
	for _, x := range []struct{ l, pre, n, suf string }{
		{"1", "", "1", ""}, {"-1,234.50 USD", "-", "1,234.50", " USD"}, {"a1b2c", "a", "1b2", "c"}, {"$.5", "$.", "5", ""}, {"5.", "", "5", "."}, {"00", "", "00", ""}, {"(7)", "(", "7", ")"}, {"a0E-9z", "a", "0E-9", "z"},
	} {
		a, n, ok := affix.Split(latin, []rune(x.l))
		if !ok || !affix.Same(a, around(x.pre, x.suf)) || string(n) != x.n {
			t.Error(x, a, string(n), ok)
		}
	}
	for _, l := range []string{"", "a", "-.,E", "\u0665", "é"} {
		if a, n, ok := affix.Split(latin, []rune(l)); ok || len(n) != 0 || !affix.Same(a, api.Affixes{}) {
			t.Error(l, a, n, ok)
		}
	}
	if a, n, ok := affix.Split(arabic, []rune("1\u0665\u0669 2")); !ok || !affix.Same(a, around("1", " 2")) || string(n) != "\u0665\u0669" {
		t.Error(a, n, ok)
	}
}

// P14.4: calm affixes, and a number between, are split again.
func TestBack(t *testing.T) {
	for _, pre := range []string{"", "a", "-$ ", "\u2066(", "%"} {
		for _, suf := range []string{"", "b", " k", "%)"} {
			for _, n := range []string{"0", "12", "1,234.5", "5E-7", "9x9"} {
				a, got, ok := affix.Split(latin, []rune(pre+n+suf))
				if !ok || !affix.Same(a, around(pre, suf)) || string(got) != n {
					t.Error(pre, n, suf, a, string(got))
				}
			}
		}
	}
}

// R3: what comes out isn't what was handed in.
func TestApart(t *testing.T) {
	p := api.Pat{Pre: toks("ab"), Suf: toks("cd"), Neg: true, NPre: toks("e-"), NSuf: toks("-f")}
	for sign := range 3 {
		pre, suf := affix.Signed(p, sign)
		pre[0].R, suf[0].R = 'x', 'x'
	}
	cur := []rune("$$")
	a := affix.Of(api.Pat{Pre: toks("¤")}, latin, 0, cur)
	a.Pre[0] = 'x'
	l := []rune("a1b")
	b, n, _ := affix.Split(latin, l)
	b.Pre[0], n[0], b.Suf[0] = 'x', 'x', 'x'
	pre := append(make([]rune, 0, 9), 'a')
	affix.Calm(latin, api.Affixes{Pre: pre, Suf: []rune("b")})
	if !slices.Equal(p.Pre, toks("ab")) || !slices.Equal(p.Suf, toks("cd")) || !slices.Equal(p.NPre, toks("e-")) || !slices.Equal(p.NSuf, toks("-f")) || string(cur) != "$$" || string(l) != "a1b" || pre[:2][1] != 0 {
		t.Error(p, cur, l)
	}
}
