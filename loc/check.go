package loc

import (
	"exergue/affix"
	"exergue/api"
	"exergue/plur"
	"exergue/sym"
	"exergue/utf"
)

// codeSize is how many letters a currency's code has.
const codeSize = 3

// maxDigits is how many figures a currency has behind the point at most.
const maxDigits = 4

// checker checks a locale, part by part; each part says where it is wrong, and whether it is right.
type checker struct{ api.Locale }

// Check tells what is wrong with a locale.
func Check(l api.Locale) (int, int, api.Errno) {
	c := checker{l}
	parts := [...]func() (int, bool){c.tag, c.signs, c.patterns, c.rules, c.currencies, c.compacts, c.confused}
	for i, part := range parts {
		if where, ok := part(); !ok {
			return i + 1, where, api.ErrBad
		}
	}
	return 0, 0, api.OK
}

func (c checker) tag() (int, bool) { return 0, Tag(c.Tag) }

func (c checker) signs() (int, bool) { return 0, sym.Good(c.S) }

func (c checker) patterns() (int, bool) {
	for style, text := range c.Pats {
		if _, ok := Pattern(c.S, style, text); !ok {
			return style, false
		}
	}
	return 0, true
}

func (c checker) rules() (int, bool) {
	_, at, err := plur.Read(c.Rules)
	return at, err == api.OK
}

func (c checker) currencies() (int, bool) {
	p, _ := Pattern(c.S, api.Currency, c.Pats[api.Currency])
	ahead := ""
	for i, cur := range c.Curs {
		if !code(cur.Code) || cur.Code <= ahead || cur.Digits < 0 || cur.Digits > maxDigits {
			return i, false
		}
		sign, _, err := utf.Decode([]byte(cur.Sign))
		if err != api.OK || !Money(c.S, p, sign) {
			return i, false
		}
		ahead = cur.Code
	}
	return api.MaxCurs, len(c.Curs) <= api.MaxCurs
}

// code: is it a currency's code?
func code(s string) bool {
	if len(s) != codeSize {
		return false
	}
	for _, c := range []byte(s) {
		if !capital(c) {
			return false
		}
	}
	return true
}

func (c checker) compacts() (int, bool) {
	powers := map[int]int{} // of the first one of each Mag
	for i, comp := range c.Comps {
		p, ok := Short(c.S, comp)
		if !ok || i > 0 && !rises(c.Comps[i-1], comp) {
			return i, false
		}
		power, later := powers[comp.Mag]
		if !later {
			power = Power(comp, p)
			powers[comp.Mag] = power
		}
		if !later && comp.Cat != api.Other || power != Power(comp, p) {
			return i, false
		}
	}
	return api.MaxComps, len(c.Comps) <= api.MaxComps
}

// rises: does a compact pattern rise behind that ahead?
func rises(ahead, c api.Comp) bool {
	return c.Mag > ahead.Mag || c.Mag == ahead.Mag && c.Cat > ahead.Cat
}

// said is what a pattern says for each sign, and its power.
type said struct {
	around [signs]api.Affixes
	power  int
}

func (c checker) confused() (int, bool) {
	p, _ := Pattern(c.S, api.Decimal, c.Pats[api.Decimal])
	all := []said{{around(c.S, p, nil), 0}}
	for i, comp := range c.Comps {
		p, _ := Short(c.S, comp)
		all = append(all, said{around(c.S, p, nil), Power(comp, p)})
		for _, other := range all {
			if alike(other, all[i+1]) {
				return i, false
			}
		}
	}
	return 0, true
}

// alike: can two be confused?
func alike(a, b said) bool {
	for i := range signs {
		for j := range signs {
			// None and plus are never held against each other: a request has but one of them.
			if min(i, j) == none && max(i, j) == plus {
				continue
			}
			apart := a.power != b.power || (i == minus) != (j == minus)
			if apart && affix.Same(a.around[i], b.around[j]) {
				return true
			}
		}
	}
	return false
}
