package pat

import "exergue/api"

// some is a count of places as it is written: of counts that no right pattern has, so many that the text is too long, but not more.
func some(n int) int {
	return max(0, min(n, api.MaxPattern+1))
}

// repeat puts n of c behind out.
func repeat(out []rune, c rune, n int) []rune {
	for range some(n) {
		out = append(out, c)
	}
	return out
}

// pattern is a pattern's text, as runes.
func pattern(p api.Pat) []rune {
	n := number(p)
	out := pad(nil, p, api.PadAhead)
	out = affix(out, p.Pre)
	out = pad(out, p, api.PadPre)
	out = append(out, n...)
	out = pad(out, p, api.PadSuf)
	out = affix(out, p.Suf)
	out = pad(out, p, api.PadBehind)
	if p.Neg {
		out = affix(append(out, ';'), p.NPre)
		out = affix(append(out, n...), p.NSuf)
	}
	return out
}

// pad puts with what is padded behind out, if it stands there.
func pad(out []rune, p api.Pat, where int) []rune {
	if p.PadAt != where {
		return out
	}
	return append(out, '*', p.Pad)
}

// affix puts pieces' text behind out.
func affix(out []rune, l []api.Tok) []rune {
	open := false
	for _, t := range l {
		quote := t.Kind == api.TRune && t.R == '\''
		within := quote && open || !quote && t.Kind == api.TRune && special(t.R)
		if within != open {
			out = append(out, '\'')
			open = within
		}
		out = append(out, piece(t)...)
	}
	if open {
		out = append(out, '\'')
	}
	return out
}

// piece is a piece's text, but for the quotes around.
func piece(t api.Tok) []rune {
	if t.Kind == api.TRune {
		if t.R == '\'' {
			return []rune{t.R, t.R}
		}
		return []rune{t.R}
	}
	for c, kind := range signs() {
		if kind == t.Kind {
			return []rune{c}
		}
	}
	return nil
}

// number is the text of a pattern's number, as runes.
func number(p api.Pat) []rune {
	var out []rune
	if p.MinSig > 0 || p.MaxSig > 0 {
		out = repeat(out, '@', p.MinSig)
		out = repeat(out, '#', p.MaxSig-some(p.MinSig))
	} else {
		out = places(out, p)
		if p.MaxFrac != 0 {
			out = append(out, '.')
			out = repeat(out, '0', p.MinFrac)
			out = repeat(out, '#', p.MaxFrac-some(p.MinFrac))
		}
	}
	if p.Exp != 0 {
		out = append(out, 'E')
		if p.ExpPlus {
			out = append(out, '+')
		}
		out = repeat(out, '0', p.Exp)
	}
	return out
}

// places puts the places ahead of the point, grouped, behind out.
func places(out []rune, p api.Pat) []rune {
	hash := some(p.Hash)
	all := hash + some(p.MinInt)
	for i := range all {
		if i > 0 && grouped(p, all-i) {
			out = append(out, ',')
		}
		if i < hash {
			out = append(out, '#')
		} else {
			out = append(out, '0')
		}
	}
	return out
}

// grouped: does a comma stand ahead of the last n places?
func grouped(p api.Pat, n int) bool {
	if p.G1 < 1 || n < p.G1 {
		return false
	}
	return n == p.G1 || p.G2 > 0 && (n-p.G1)%p.G2 == 0
}
