package rule

import (
	"strings"

	"exergue/api"
)

// maxFigures is how many figures a number has at most.
const maxFigures = 9

// reader reads a rule's text, from the place at on. Where it can't go on, at is left at what can't.
type reader struct {
	s  string
	at int
}

// run is what stands there, behind blanks, of bytes of a kind, as far as they go.
func (r *reader) run(is func(c byte) bool) string {
	for r.at < len(r.s) && r.s[r.at] == ' ' {
		r.at++
	}
	end := r.at
	for end < len(r.s) && is(r.s[end]) {
		end++
	}
	return r.s[r.at:end]
}

// word is the letters that stand there.
func (r *reader) word() string {
	return r.run(func(c byte) bool { return 'a' <= c && c <= 'z' || 'A' <= c && c <= 'Z' })
}

// eat goes past a sign, if it stands there, and blanks ahead.
func (r *reader) eat(sign string) bool {
	r.run(func(byte) bool { return false })
	if !strings.HasPrefix(r.s[r.at:], sign) {
		return false
	}
	r.at += len(sign)
	return true
}

// number goes past a number that isn't below least.
func (r *reader) number(least int) (int, bool) {
	l := r.run(func(c byte) bool { return '0' <= c && c <= '9' })
	if len(l) == 0 || len(l) > maxFigures || len(l) > 1 && l[0] == '0' {
		return 0, false
	}
	n := 0
	for _, c := range []byte(l) {
		n = n*10 + int(c-'0')
	}
	if n < least {
		return 0, false
	}
	r.at += len(l)
	return n, true
}

// rows goes past a rule, and blanks behind; it is to end there.
func (r *reader) rows() (api.Cond, bool) {
	var out api.Cond
	var row []api.Rel
rule:
	for {
		rel, ok := r.relation()
		if !ok {
			return nil, false
		}
		row = append(row, rel)
		switch w := r.word(); w {
		case "and":
			r.at += len(w)
		case "or":
			r.at += len(w)
			out = append(out, row)
			row = nil
		default:
			break rule
		}
	}
	return append(out, row), r.at == len(r.s)
}

// relation goes past a relation.
func (r *reader) relation() (api.Rel, bool) {
	var out api.Rel
	if r.operand(&out) && r.mod(&out) && r.sign(&out) && r.ranges(&out) {
		return out, true
	}
	return api.Rel{}, false
}

// operand goes past the name of an operand.
func (r *reader) operand(out *api.Rel) bool {
	w := r.word()
	if len(w) != 1 || !strings.Contains("nivwftce", w) {
		return false
	}
	out.Op = w[0]
	r.at++
	return true
}

// mod goes past what is divided by, if that is told.
func (r *reader) mod(out *api.Rel) bool {
	if !r.eat("%") {
		return true
	}
	var ok bool
	out.Mod, ok = r.number(1)
	return ok
}

// sign goes past one of both signs.
func (r *reader) sign(out *api.Rel) bool {
	if r.eat("=") {
		return true
	}
	out.Not = r.eat("!=")
	return out.Not
}

// ranges goes past ranges, one at least.
func (r *reader) ranges(out *api.Rel) bool {
	for {
		from, ok := r.number(0)
		to := from
		if ok && r.eat("..") {
			to, ok = r.number(from + 1)
		}
		if !ok {
			return false
		}
		out.R = append(out.R, [2]int{from, to})
		if !r.eat(",") {
			return true
		}
	}
}
