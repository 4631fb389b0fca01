// Package utf is layer 1: runes as bytes, in UTF-8, and back.
package utf

import (
	"slices"

	"exergue/api"
)

const (
	last      = 0x10FFFF
	halfFrom  = 0xD800
	halfTo    = 0xDFFF
	tailMark  = 0x80
	tailBits  = 6
	tailMask  = 0x3F
	twoMark   = 0xC0
	threeMark = 0xE0
	fourMark  = 0xF0
)

// Is: is it a rune?
func Is(r rune) bool {
	return r >= 0 && r <= last && (r < halfFrom || r > halfTo)
}

// Size is how many bytes a rune has.
func Size(r rune) int {
	switch {
	case !Is(r):
		return 0
	case r < 0x80:
		return 1
	case r < 0x800:
		return 2
	case r < 0x10000:
		return 3
	}
	return 4
}

// Encode is runes as bytes.
func Encode(l []rune) ([]byte, api.Errno) {
	var out []byte
	for _, r := range l {
		n := Size(r)
		if n == 0 {
			return nil, api.ErrUtf
		}
		out = lay(out, r, n)
	}
	return out, api.OK
}

// lay puts the n bytes of a rune behind out.
func lay(out []byte, r rune, n int) []byte {
	shift := tailBits * (n - 1)
	out = append(out, mark(n)|byte(r>>shift))
	for shift > 0 {
		shift -= tailBits
		out = append(out, tailMark|byte(r>>shift)&tailMask)
	}
	return out
}

// mark is what the first of n bytes has beside bits of the rune.
func mark(n int) byte {
	switch n {
	case 2:
		return twoMark
	case 3:
		return threeMark
	case 4:
		return fourMark
	}
	return 0
}

// Decode is bytes as runes.
func Decode(b []byte) ([]rune, int, api.Errno) {
	var out []rune
	for at := 0; at < len(b); {
		r, n := first(b[at:])
		if n == 0 {
			return nil, at, api.ErrUtf
		}
		out = append(out, r)
		at += n
	}
	return out, 0, api.OK
}

// first is the rune whose bytes b, which isn't empty, begins with, and how many these are; 0, if there is none.
func first(b []byte) (rune, int) {
	n := promised(b[0])
	if n == 0 || n > len(b) {
		return 0, 0
	}
	r := rune(b[0] &^ mark(n))
	for _, c := range b[1:n] {
		if c&^tailMask != tailMark {
			return 0, 0
		}
		r = r<<tailBits | rune(c&tailMask)
	}
	// A rune that could be told in fewer bytes, or is none, has another size.
	if Size(r) != n {
		return 0, 0
	}
	return r, n
}

// promised is how many bytes a first byte says there are; 0, if it is none.
func promised(c byte) int {
	switch {
	case c < tailMark:
		return 1
	case c>>5 == twoMark>>5:
		return 2
	case c>>4 == threeMark>>4:
		return 3
	case c>>3 == fourMark>>3:
		return 4
	}
	return 0
}

// Same: are two rows the same?
func Same(a, b []rune) bool {
	return slices.Equal(a, b)
}
