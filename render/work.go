package render

import (
	"slices"

	"exergue/affix"
	"exergue/api"
	"exergue/class"
	"exergue/dec"
	"exergue/loc"
	"exergue/oper"
	"exergue/plur"
	"exergue/round"
	"exergue/shape"
	"exergue/sym"
)

const (
	none  = 0
	minus = 1
	plus  = 2
)

// work is a number at work: its request, and what that asks for in its locale.
type work struct {
	api.Req
	l      api.Locale
	p      api.Pat // of the style
	cur    []rune  // the currency's runes
	digits int     // of the currency; else below 0
}

// begin is the work that a request asks for, if it may be.
func begin(l api.Locale, q api.Req) (work, api.Errno) {
	if q.Style < api.Decimal || q.Style > api.Compact || !round.Is(q.Mode) {
		return work{}, api.ErrReq
	}
	style := q.Style
	if style == api.Compact {
		style = api.Decimal
	}
	w := work{Req: q, l: l, digits: -1}
	w.p, _ = loc.Pattern(l.S, style, l.Pats[style])
	if q.Style == api.Currency && !w.currency() || !q.Bidi && w.turns() {
		return work{}, api.ErrReq
	}
	return w, api.OK
}

// currency finds the request's currency, and its runes, if these may be.
func (w *work) currency() bool {
	i := slices.IndexFunc(w.l.Curs, func(c api.Cur) bool { return c.Code == w.Code })
	if i < 0 {
		return false
	}
	w.digits = w.l.Curs[i].Digits
	w.cur = w.Sign
	if len(w.Sign) == 0 {
		w.cur = []rune(w.l.Curs[i].Sign)
		return true
	}
	return loc.Money(w.l.S, w.p, w.Sign)
}

// turns: has anything that may be said around a number a rune that turns the way of writing?
func (w work) turns() bool {
	all := []api.Pat{w.p}
	if w.Style == api.Compact {
		for _, c := range w.l.Comps {
			p, _ := loc.Short(w.l.S, c)
			all = append(all, p)
		}
	}
	bidi := func(r rune) bool { return class.Of(r) == api.Bidi }
	for _, p := range all {
		for _, sign := range [3]int{none, minus, plus} {
			a := affix.Of(p, w.l.S, sign, w.cur)
			if slices.ContainsFunc(a.Pre, bidi) || slices.ContainsFunc(a.Suf, bidi) {
				return true
			}
		}
	}
	return false
}

// sign is the sign of a number.
func (w work) sign(d api.Dec) int {
	switch {
	case d.Neg:
		return minus
	case w.Plus:
		return plus
	}
	return none
}

// rounded is a number, rounded.
func (w work) rounded(d api.Dec) (api.Dec, api.Errno) {
	styles := map[int]func(api.Dec) (api.Dec, api.Errno){
		api.Decimal:    w.byPattern,
		api.Percent:    w.hundredth,
		api.Scientific: w.byPattern,
		api.Currency:   w.byPattern,
		api.Compact:    w.byMagnitude,
	}
	return styles[w.Style](d)
}

func (w work) byPattern(d api.Dec) (api.Dec, api.Errno) {
	return shape.Round(w.p, w.digits, d, w.Mode)
}

func (w work) hundredth(d api.Dec) (api.Dec, api.Errno) {
	d, err := dec.Shift(d, 2)
	if err != api.OK {
		return api.Dec{}, err
	}
	d, err = w.byPattern(d)
	if err != api.OK {
		return api.Dec{}, err
	}
	return dec.Shift(d, -2)
}

func (w work) byMagnitude(d api.Dec) (api.Dec, api.Errno) {
	power, _ := Power(w.l, mag(d))
	return round.Sig(d, max(2, mag(d)-power), w.Mode)
}

// written is a number that is rounded, written.
func (w work) written(r api.Dec) ([]rune, api.Errno) {
	styles := map[int]func(api.Dec) ([]rune, api.Errno){
		api.Decimal:    w.whole,
		api.Percent:    w.hundreds,
		api.Scientific: w.whole,
		api.Currency:   w.whole,
		api.Compact:    w.short,
	}
	return styles[w.Style](r)
}

func (w work) whole(r api.Dec) ([]rune, api.Errno) {
	a := affix.Of(w.p, w.l.S, w.sign(r), w.cur)
	return Pads(w.p, a, shape.Write(w.l.S, w.p, w.digits, r)), api.OK
}

func (w work) hundreds(r api.Dec) ([]rune, api.Errno) {
	r, err := dec.Shift(r, 2)
	if err != api.OK {
		return nil, err
	}
	return w.whole(r)
}

func (w work) short(r api.Dec) ([]rune, api.Errno) {
	power, found := Power(w.l, mag(r))
	m, err := dec.Shift(r, -power)
	if err != api.OK {
		return nil, err
	}
	whole, part, _ := shape.Figures(api.Pat{MinInt: 1}, -1, m)
	n := sym.Grouped(w.l.S, whole, w.p.G1, w.p.G2)
	if len(part) > 0 {
		n = append(n, w.l.S.Dec)
		n = append(n, sym.Digits(w.l.S, part)...)
	}
	p := w.p
	if found != 0 {
		o, _ := oper.Of(whole, part, power)
		p = w.compact(found, o)
	}
	a := affix.Of(p, w.l.S, w.sign(r), w.cur)
	return append(append(a.Pre, n...), a.Suf...), api.OK
}

// compact is the compact pattern of a Mag, and of a number's category; where there is none, of other.
func (w work) compact(mag int, o api.Oper) api.Pat {
	rules, _, _ := plur.Read(w.l.Rules)
	cat := plur.Of(rules, o)
	var best api.Comp
	for _, c := range w.l.Comps {
		if c.Mag == mag && (c.Cat == cat || c.Cat == api.Other) {
			// Other is the first one of its Mag.
			best = c
		}
	}
	p, _ := loc.Short(w.l.S, best)
	return p
}
