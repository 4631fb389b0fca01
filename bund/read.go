package bund

import (
	"exergue/api"
	"exergue/pack"
)

// reader reads sections, from the place at on.
type reader struct {
	b    []byte
	at   int
	pool []string
}

// read is the locale that the sections behind the head tell, if they tell one. What the head tells isn't looked at.
func read(b []byte) (l api.Locale, ok bool) {
	defer func() {
		if recover() != nil {
			l, ok = api.Locale{}, false
		}
	}()
	r := &reader{b: b, at: headSize}
	r.words()
	return r.locale(), true
}

// must goes on only if all went well.
func must(err api.Errno) {
	if err != api.OK {
		panic("it can't be read")
	}
}

// take is the number of a size that stands there.
func (r *reader) take(size int) int {
	n, at, err := pack.Take(r.b, r.at, size)
	must(err)
	r.at = at
	return int(n)
}

// text is the text whose place stands there.
func (r *reader) text() string {
	l, err := pack.Spread(r.pool, []int{r.take(refSize)})
	must(err)
	return l[0]
}

// sign is the rune that stands there.
func (r *reader) sign() rune { return rune(r.take(runeSize)) }

func (r *reader) words() {
	pool, at, err := pack.TakePool(r.b, r.at)
	must(err)
	r.pool, r.at = pool, at
}

// locale is what the sections behind the pool tell.
func (r *reader) locale() api.Locale {
	var l api.Locale
	l.Tag = r.text()
	l.S = api.Sym{
		Zero: r.sign(), Dec: r.sign(), Group: r.sign(),
		Minus: r.sign(), Plus: r.sign(), Percent: r.sign(), Exp: r.sign(),
	}
	for i := range l.Pats {
		l.Pats[i] = r.text()
	}
	for range r.take(manySize) {
		cat := r.take(catSize)
		l.Rules = append(l.Rules, api.Rule{Cat: cat, Text: r.text()})
	}
	for range r.take(manySize) {
		code, sign := r.text(), r.text()
		l.Curs = append(l.Curs, api.Cur{Code: code, Sign: sign, Digits: r.take(catSize)})
	}
	for range r.take(manySize) {
		mag, cat := r.take(catSize), r.take(catSize)
		l.Comps = append(l.Comps, api.Comp{Mag: mag, Cat: cat, Pat: r.text()})
	}
	return l
}
