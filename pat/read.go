package pat

import "exergue/api"

// reader reads a pattern's runes, from the place at on.
type reader struct {
	l     []rune
	signs map[rune]int
	at    int
	bad   int // where it couldn't go on
}

// read is the pattern of runes; if it can't go on, where.
func read(l []rune) (p api.Pat, at int, ok bool) {
	r := &reader{l: l, signs: signs()}
	defer func() {
		if recover() != nil {
			p, at, ok = api.Pat{}, r.bad, false
		}
	}()
	return r.pattern(), 0, true
}

// fail tells that it can't go on.
func (r *reader) fail(at int) {
	r.bad = at
	panic("it can't go on")
}

// is: does c stand so far on?
func (r *reader) is(c rune, on int) bool {
	return r.at+on < len(r.l) && r.l[r.at+on] == c
}

// eat goes past c, if it stands there.
func (r *reader) eat(c rune) bool {
	if !r.is(c, 0) {
		return false
	}
	r.at++
	return true
}

// many goes past each c that stands there, and counts them.
func (r *reader) many(c rune) int {
	n := 0
	for r.eat(c) {
		n++
	}
	return n
}

// pattern reads all.
func (r *reader) pattern() api.Pat {
	var p api.Pat
	r.pad(&p, api.PadAhead)
	p.Pre = r.affix()
	if len(p.Pre) > 0 {
		r.pad(&p, api.PadPre)
	}
	from := r.at
	r.number(&p)
	number := r.l[from:r.at]
	r.pad(&p, api.PadSuf)
	p.Suf = r.affix()
	if len(p.Suf) > 0 {
		r.pad(&p, api.PadBehind)
	}
	if r.eat(';') {
		r.negative(&p, number)
	}
	if r.at < len(r.l) {
		r.fail(r.at)
	}
	return p
}

// negative reads what is told of numbers below nought.
func (r *reader) negative(p *api.Pat, number []rune) {
	p.Neg = true
	p.NPre = r.affix()
	for _, c := range number {
		if !r.eat(c) {
			r.fail(r.at)
		}
	}
	p.NSuf = r.affix()
}

// pad reads with what is padded, if that stands there and none was told yet.
func (r *reader) pad(p *api.Pat, where int) {
	if p.PadAt != 0 || !r.eat('*') {
		return
	}
	if r.at == len(r.l) {
		r.fail(r.at)
	}
	p.Pad, p.PadAt = r.l[r.at], where
	r.at++
}

// affix reads pieces as far as they go.
func (r *reader) affix() []api.Tok {
	var out []api.Tok
	for r.at < len(r.l) {
		c := r.l[r.at]
		kind, sign := r.signs[c]
		switch {
		case sign:
			out = append(out, api.Tok{Kind: kind})
		case r.is('\'', 0):
			out = r.quoted(out)
			continue
		case special(c):
			return out
		default:
			out = append(out, api.Tok{R: c})
		}
		r.at++
	}
	return out
}

// quoted reads what begins with a quote, and puts its runes behind out.
func (r *reader) quoted(out []api.Tok) []api.Tok {
	open := r.at
	if r.twice() {
		return append(out, api.Tok{R: '\''})
	}
	r.at++
	for r.at < len(r.l) {
		switch {
		case r.twice():
			out = append(out, api.Tok{R: '\''})
		case r.eat('\''):
			return out
		default:
			out = append(out, api.Tok{R: r.l[r.at]})
			r.at++
		}
	}
	r.fail(open)
	return nil
}

// twice goes past two quotes, if they stand there.
func (r *reader) twice() bool {
	if !r.is('\'', 0) || !r.is('\'', 1) {
		return false
	}
	r.at += 2
	return true
}

// number reads the number that stands between the affixes.
func (r *reader) number(p *api.Pat) {
	p.MinSig = r.many('@')
	if p.MinSig > 0 {
		p.MaxSig = p.MinSig + r.many('#')
	} else {
		r.places(p)
		r.fraction(p)
	}
	if !r.eat('E') {
		return
	}
	p.ExpPlus = r.eat('+')
	p.Exp = r.many('0')
	if p.Exp == 0 {
		r.fail(r.at)
	}
}

// places reads those ahead of the point, and how they are grouped.
func (r *reader) places(p *api.Pat) {
	commas, since := 0, 0
	for r.place(p, 0) || r.comma(p, since) {
		if r.eat(',') {
			commas++
			since = 0
			continue
		}
		if r.eat('0') {
			p.MinInt++
		} else {
			r.at++
			p.Hash++
		}
		since++
		r.between(p, commas, since)
	}
	if p.Hash+p.MinInt == 0 {
		r.fail(r.at)
	}
	switch commas {
	case 0:
	case 1:
		p.G1, p.G2 = since, since
	default:
		p.G1 = since
	}
}

// place: does a place stand so far on, that may?
func (r *reader) place(p *api.Pat, on int) bool {
	return r.is('0', on) || p.MinInt == 0 && r.is('#', on)
}

// comma: does a comma stand there, ahead of a place, and, since so many places, behind one?
func (r *reader) comma(p *api.Pat, since int) bool {
	return since > 0 && r.is(',', 0) && r.place(p, 1)
}

// between keeps, or holds against what was kept, how many places are between two commas, if the second one stands there.
func (r *reader) between(p *api.Pat, commas, since int) {
	if commas == 0 || !r.comma(p, since) {
		return
	}
	if commas > 1 && since != p.G2 {
		r.fail(r.at)
	}
	p.G2 = since
}

// fraction reads the places behind the point, if one stands there.
func (r *reader) fraction(p *api.Pat) {
	if !r.eat('.') {
		return
	}
	p.MinFrac = r.many('0')
	p.MaxFrac = p.MinFrac + r.many('#')
	if p.MaxFrac == 0 {
		r.fail(r.at)
	}
}
