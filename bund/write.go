package bund

import (
	"exergue/api"
	"exergue/pack"
)

// writer writes a locale's sections.
type writer struct {
	api.Locale
	pool []string
	refs []int // of the texts that are not yet written: they are in the order in which they are told
	out  []byte
	bad  bool // couldn't something be written?
}

func newWriter(l api.Locale) *writer {
	pool, refs := pack.Gather(Texts(l))
	return &writer{Locale: l, pool: pool, refs: refs}
}

// put puts a number of a size out.
func (w *writer) put(n, size int) {
	b, err := pack.Put(nil, uint32(n), size)
	if err != api.OK || n != int(uint32(n)) {
		w.bad = true
	}
	w.out = append(w.out, b...)
}

// text puts the place of the next text out.
func (w *writer) text() {
	w.put(w.refs[0], refSize)
	w.refs = w.refs[1:]
}

// head puts out what stands behind the first four bytes: the sections' table, and what is ahead of it.
func (w *writer) head(table [sections][2]int) {
	w.put(version, 2)
	w.put(sections, 2)
	for _, row := range table {
		w.put(row[0], 4)
		w.put(row[1], 4)
	}
}

func (w *writer) words() {
	b, err := pack.PutPool(nil, w.pool)
	if err != api.OK {
		w.bad = true
	}
	w.out = append(w.out, b...)
}

func (w *writer) names() {
	w.text()
	for _, r := range [...]rune{w.S.Zero, w.S.Dec, w.S.Group, w.S.Minus, w.S.Plus, w.S.Percent, w.S.Exp} {
		w.put(int(r), runeSize)
	}
}

func (w *writer) patterns() {
	for range w.Pats {
		w.text()
	}
}

func (w *writer) rules() {
	w.put(len(w.Rules), manySize)
	for _, r := range w.Rules {
		w.put(r.Cat, catSize)
		w.text()
	}
}

func (w *writer) currencies() {
	w.put(len(w.Curs), manySize)
	for _, c := range w.Curs {
		w.text()
		w.text()
		w.put(c.Digits, catSize)
	}
}

func (w *writer) compacts() {
	w.put(len(w.Comps), manySize)
	for _, c := range w.Comps {
		w.put(c.Mag, catSize)
		w.put(c.Cat, catSize)
		w.text()
	}
}
