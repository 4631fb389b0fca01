package shape

import (
	"slices"

	"exergue/api"
	"exergue/dec"
	"exergue/sym"
)

// maxPower is the greatest power that is read.
const maxPower = 100_000

// Read is a written number.
func Read(s api.Sym, p api.Pat, l []rune) (api.Dec, api.Errno) {
	l, power, ok := cutPower(s, p, l)
	if !ok {
		return api.Dec{}, api.ErrBack
	}
	l, part, ok := cutPart(s, l)
	if !ok {
		return api.Dec{}, api.ErrBack
	}
	whole, _, err := sym.Ungrouped(s, l, p.G1, p.G2)
	if err != api.OK {
		return api.Dec{}, api.ErrBack
	}
	d, err := dec.Norm(false, append(whole, part...), power-len(part))
	if err != api.OK {
		return api.Dec{}, api.ErrBack
	}
	return d, api.OK
}

// figures are the figures of a row of digits alone.
func figures(s api.Sym, l []rune) ([]byte, bool) {
	var out []byte
	for _, r := range l {
		n, digit := sym.Value(s, r)
		if !digit {
			return nil, false
		}
		out = append(out, n)
	}
	return out, true
}

// cutPart parts the figures behind the point off a row, if it has a point.
func cutPart(s api.Sym, l []rune) ([]rune, []byte, bool) {
	at := slices.Index(l, s.Dec)
	if at < 0 {
		return l, nil, true
	}
	part, ok := figures(s, l[at+1:])
	return l[:at], part, ok && len(part) > 0
}

// cutPower parts the sign Exp, and the power behind it, off a row, if the pattern has one.
func cutPower(s api.Sym, p api.Pat, l []rune) ([]rune, int, bool) {
	if p.Exp < 1 {
		return l, 0, true
	}
	at := slices.Index(l, s.Exp)
	if at < 0 {
		return nil, 0, false
	}
	power, ok := readPower(s, l[at+1:])
	return l[:at], power, ok
}

// readPower is a power that is written: a sign, or none, and digits.
func readPower(s api.Sym, l []rune) (int, bool) {
	side := 1
	if len(l) > 0 && (l[0] == s.Minus || l[0] == s.Plus) {
		if l[0] == s.Minus {
			side = -1
		}
		l = l[1:]
	}
	all, ok := figures(s, l)
	if !ok || len(all) == 0 || len(all) > api.MaxPlaces {
		return 0, false
	}
	n := 0
	for _, c := range all {
		// What is too great stays so: forty figures might go round.
		n = min(n*10+int(c), maxPower+1)
	}
	return side * n, n <= maxPower
}
