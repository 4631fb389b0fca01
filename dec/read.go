package dec

import "exergue/api"

// reader reads a text, from the place at on. It goes on only as long as what it has read begins a right Dec's text; so where it can't go on, there the fault is.
type reader struct {
	s  string
	at int
}

// eat goes past c, if it stands there.
func (r *reader) eat(c byte) bool {
	if r.at == len(r.s) || r.s[r.at] != c {
		return false
	}
	r.at++
	return true
}

// next is the figure that stands there, if one does.
func (r *reader) next() (byte, bool) {
	if r.at == len(r.s) || r.s[r.at] < '0' || r.s[r.at] > '9' {
		return 0, false
	}
	return r.s[r.at] - '0', true
}

// figures reads those ahead of the e: a nought alone (none then), or so many as may be. The answer tells whether an e may follow.
func (r *reader) figures() ([]byte, bool) {
	if r.eat('0') {
		return nil, true
	}
	var l []byte
	for len(l) < api.MaxDigits {
		c, ok := r.next()
		// The last one that there may be isn't 0: none is left to follow it.
		if !ok || c == 0 && len(l) == api.MaxDigits-1 {
			break
		}
		l = append(l, c)
		r.at++
	}
	return l, len(l) > 0 && l[len(l)-1] != 0
}

// power reads what stands behind the e; of nought just a nought may.
func (r *reader) power(nought bool) (int, bool) {
	if r.eat('0') {
		return 0, true
	}
	if nought {
		return 0, false
	}
	side := 1
	if r.eat('-') {
		side = -1
	}
	n := 0
	for {
		c, ok := r.next()
		if !ok || n == 0 && c == 0 || n*10+int(c) > api.MaxExp {
			return side * n, n > 0
		}
		n = n*10 + int(c)
		r.at++
	}
}

// number reads all of a text.
func (r *reader) number() (api.Dec, bool) {
	neg := r.eat('-')
	l, ok := r.figures()
	if !ok || !r.eat('e') {
		return api.Dec{}, false
	}
	e, ok := r.power(len(l) == 0)
	if !ok || r.at < len(r.s) {
		return api.Dec{}, false
	}
	return api.Dec{Neg: neg, D: l, E: e}, true
}

// Read is a text's number.
func Read(s string) (api.Dec, int, api.Errno) {
	r := &reader{s: s}
	d, ok := r.number()
	if !ok {
		return api.Dec{}, r.at, api.ErrForm
	}
	return d, 0, api.OK
}
