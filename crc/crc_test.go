package crc_test

import (
	"bytes"
	"hash/crc32"
	"testing"

	"exergue/api"
	"exergue/crc"
)

// some are rows of bytes of all kinds.
func some() [][]byte {
	out := [][]byte{nil, {0}, {255}, {0, 0, 0, 0}, []byte("a"), []byte("123456789"), bytes.Repeat([]byte{255}, 70)}
	x := uint32(1)
	for n := range 40 {
		var b []byte
		for range n * 3 {
			x = x*1664525 + 1013904223
			b = append(b, byte(x>>24))
		}
		out = append(out, b)
	}
	return out
}

// P8.1: a step, as it is said.
func TestStep(t *testing.T) {
	for _, s := range []uint32{0, 1, 0xFF, 0x100, 0xEDB88320, 0x80000000, 0xFFFFFFFF, 123456789} {
		for c := range 256 {
			x := s ^ uint32(c)
			want := crc32.IEEETable[byte(x)] ^ x>>8
			if got := crc.Step(s, byte(c)); got != want {
				t.Errorf("%x, %x: %x, not %x", s, c, got, want)
			}
		}
	}
	if crc.Step(0, 0) != 0 || crc.Step(0, 1) != 1996959894 || crc.Step(1, 1) != 0 {
		t.Error(crc.Step(0, 1))
	}
}

// P8.1, P8.3: checksums, and gone on.
func TestOfAndOn(t *testing.T) {
	if crc.Of([]byte("123456789")) != 3421780262 || crc.Of(nil) != 0 || crc.On(7, nil) != 7 {
		t.Error("known ones")
	}
	for _, b := range some() {
		if got := crc.Of(b); got != crc32.ChecksumIEEE(b) {
			t.Errorf("%x: %x", b, got)
		}
		for _, s := range []uint32{0, 1, 0xFFFFFFFF, 0x12345678} {
			if got := crc.On(s, b); got != crc32.Update(s, crc32.IEEETable, b) {
				t.Errorf("%x, %x: %x", s, b, got)
			}
		}
		for i := range b {
			if crc.On(crc.Of(b[:i]), b[i:]) != crc.Of(b) {
				t.Errorf("%x, %d", b, i)
			}
		}
	}
}

// P8.2, P8.3: what is put is cut again.
func TestPutAndCut(t *testing.T) {
	for _, b := range some() {
		s := crc32.ChecksumIEEE(b)
		p := crc.Put(b)
		if !bytes.Equal(p, append(append([]byte{}, b...), byte(s), byte(s>>8), byte(s>>16), byte(s>>24))) {
			t.Errorf("%x: %x", b, p)
		}
		if c, e := crc.Cut(p); e != api.OK || !bytes.Equal(c, b) {
			t.Errorf("%x: %x, %d", b, c, e)
		}
	}
	for _, b := range [][]byte{nil, {}, {0}, {0, 0}, {0, 0, 0}, {1, 2, 3}} {
		if c, e := crc.Cut(b); e != api.ErrForm || len(c) != 0 {
			t.Errorf("%x: %x, %d", b, c, e)
		}
	}
	for _, b := range [][]byte{{0, 0, 0, 1}, {255, 255, 255, 255}, {0, 0, 0, 0, 0}, []byte("1234567890123")} {
		if c, e := crc.Cut(b); e != api.ErrSum || len(c) != 0 {
			t.Errorf("%x: %x, %d", b, c, e)
		}
	}
	if c, e := crc.Cut([]byte{0, 0, 0, 0}); e != api.OK || len(c) != 0 {
		t.Error(c, e)
	}
}

// P8.3: what is changed within 32 bits that stand together is no more right.
func TestChanged(t *testing.T) {
	p := crc.Put([]byte("a bundle of a locale"))
	for at := range 8 * len(p) {
		for _, change := range []uint64{1, 3, 0x80000001, 0xFFFFFFFF, 0xA5A5A5A5, 0x10001} {
			q := bytes.Clone(p)
			changed := false
			for i := range 32 {
				if bit := at + i; change>>i&1 == 1 && bit < 8*len(q) {
					q[bit/8] ^= 1 << (bit % 8)
					changed = true
				}
			}
			if c, e := crc.Cut(q); changed && (e != api.ErrSum || len(c) != 0) {
				t.Errorf("%d, %x: %x, %d", at, change, c, e)
			}
		}
	}
	for cut := range len(p) {
		if _, e := crc.Cut(p[:cut]); e == api.OK {
			t.Error(cut)
		}
	}
}

// R3: what comes out isn't what was handed in.
func TestApart(t *testing.T) {
	b := make([]byte, 3, 100)
	copy(b, "abc")
	p, q := crc.Put(b), crc.Put(b)
	b[0], p[1] = 'x', 'y'
	if string(q[:3]) != "abc" || string(p[:3]) != "ayc" || string(b[:7]) != "xbc\x00\x00\x00\x00" {
		t.Error(p, q, b[:7])
	}
	c, _ := crc.Cut(q)
	q[2] = 'z'
	if string(c) != "abc" {
		t.Error(c)
	}
}
