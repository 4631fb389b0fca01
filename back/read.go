package back

import (
	"slices"

	"exergue/affix"
	"exergue/api"
	"exergue/dec"
	"exergue/loc"
	"exergue/shape"
)

const (
	none  = 0
	minus = 1
	plus  = 2
)

// option is a pattern by which a number may be written, and the power that it leaves out.
type option struct {
	p     api.Pat
	power int
}

// style is the pattern of a request's style.
func style(l api.Locale, q api.Req) api.Pat {
	which := q.Style
	if which == api.Compact {
		which = api.Decimal
	}
	p, _ := loc.Pattern(l.S, which, l.Pats[which])
	return p
}

// options tells all patterns by which a number may be written, in order.
func options(l api.Locale, q api.Req) func(yield func(option) bool) {
	return func(yield func(option) bool) {
		power := 0
		if q.Style == api.Percent {
			power = -2
		}
		if !yield(option{style(l, q), power}) || q.Style != api.Compact {
			return
		}
		for _, c := range l.Comps {
			p, _ := loc.Short(l.S, c)
			if !yield(option{p, loc.Power(c, p)}) {
				return
			}
		}
	}
}

// signs tells the signs that a number may have, in order.
func signs(q api.Req) func(yield func(int) bool) {
	return func(yield func(int) bool) {
		above := none
		if q.Plus {
			above = plus
		}
		if yield(above) {
			yield(minus)
		}
	}
}

// currency is the currency's runes of a request.
func currency(l api.Locale, q api.Req) []rune {
	if q.Style != api.Currency {
		return nil
	}
	i := slices.IndexFunc(l.Curs, func(c api.Cur) bool { return c.Code == q.Code })
	if len(q.Sign) > 0 || i < 0 {
		return q.Sign
	}
	return []rune(l.Curs[i].Sign)
}

// readings tells all numbers that can be read, in order, of what stands around, and between.
func readings(l api.Locale, q api.Req, around api.Affixes, number []rune) func(yield func(api.Dec) bool) {
	cur := currency(l, q)
	return func(yield func(api.Dec) bool) {
		for o := range options(l, q) {
			bare := around
			if q.Style != api.Compact {
				bare = Bare(o.p, around)
			}
			for sign := range signs(q) {
				if !affix.Same(affix.Of(o.p, l.S, sign, cur), bare) {
					continue
				}
				if d, ok := reading(l, q, o, number); ok {
					d.Neg = sign == minus
					if !yield(d) {
						return
					}
				}
			}
		}
	}
}

// reading is what a number is read as, by a pattern, without its side.
func reading(l api.Locale, q api.Req, o option, number []rune) (api.Dec, bool) {
	p := o.p
	if q.Style == api.Compact {
		decimal := style(l, q)
		p = api.Pat{MinInt: 1, G1: decimal.G1, G2: decimal.G2}
	}
	d, err := shape.Read(l.S, p, number)
	if err != api.OK {
		return api.Dec{}, false
	}
	d, err = dec.Shift(d, o.power)
	return d, err == api.OK
}
