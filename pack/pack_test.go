package pack_test

import (
	"bytes"
	"encoding/binary"
	"slices"
	"strconv"
	"strings"
	"testing"

	"exergue/api"
	"exergue/pack"
)

const most = 1<<63 - 1

var numbers = []uint32{0, 1, 2, 127, 128, 255, 256, 257, 258, 65535, 65536, 65537, 1 << 24, 0x12345678, 1 << 31, 1<<32 - 1}

// P9.1: a number, put and taken.
func TestPutAndTake(t *testing.T) {
	if b, e := pack.Put(nil, 258, 2); e != api.OK || !bytes.Equal(b, []byte{1, 2}) {
		t.Error(b, e)
	}
	if b, e := pack.Put([]byte{9}, 0x01020304, 4); e != api.OK || !bytes.Equal(b, []byte{9, 1, 2, 3, 4}) {
		t.Error(b, e)
	}
	for _, ahead := range [][]byte{nil, {7}, {1, 2, 3, 4, 5}} {
		for _, n := range numbers {
			for _, size := range []int{1, 2, 4} {
				putAndTake(t, ahead, n, size)
			}
		}
	}
}

func putAndTake(t *testing.T, ahead []byte, n uint32, size int) {
	b, e := pack.Put(ahead, n, size)
	if uint64(n) >= 1<<(8*size) {
		if e != api.ErrArg || !bytes.Equal(b, ahead) {
			t.Error(ahead, n, size, b, e)
		}
		return
	}
	all := binary.BigEndian.AppendUint32(nil, n)
	want := append(bytes.Clone(ahead), all[4-size:]...)
	if e != api.OK || !bytes.Equal(b, want) {
		t.Error(ahead, n, size, b, e)
	}
	for _, behind := range [][]byte{nil, {0xEE, 0xEE}} {
		got, at, e := pack.Take(append(bytes.Clone(b), behind...), len(ahead), size)
		if e != api.OK || got != n || at != len(b) {
			t.Error(ahead, n, size, got, at, e)
		}
	}
	if got, at, e := pack.Take(b[:len(b)-1], len(ahead), size); e != api.ErrForm || got != 0 || at != 0 {
		t.Error(ahead, n, size, got, at, e)
	}
}

// P9.1: sizes that there aren't, and places that aren't there.
func TestArguments(t *testing.T) {
	for _, size := range []int{0, 3, 5, 8, -1, -2, -4, most, -most - 1, 1 << 32} {
		if b, e := pack.Put([]byte{5}, 0, size); e != api.ErrArg || !bytes.Equal(b, []byte{5}) {
			t.Error(size, b, e)
		}
		if n, at, e := pack.Take(make([]byte, 20), 1, size); e != api.ErrArg || n != 0 || at != 0 {
			t.Error(size, n, at, e)
		}
		if n, at, e := pack.Take(nil, 50, size); e != api.ErrArg || n != 0 || at != 0 {
			t.Error(size, n, at, e)
		}
	}
	for _, at := range []int{-1, -most - 1} {
		if n, p, e := pack.Take([]byte{1, 2, 3, 4}, at, 2); e != api.ErrArg || n != 0 || p != 0 {
			t.Error(at, n, p, e)
		}
		if l, p, e := pack.TakePool([]byte{0, 0, 0, 0}, at); e != api.ErrArg || len(l) != 0 || p != 0 {
			t.Error(at, l, p, e)
		}
	}
	for _, at := range []int{3, 4, 5, most, most - 1} {
		if n, p, e := pack.Take([]byte{1, 2, 3, 4}, at, 2); e != api.ErrForm || n != 0 || p != 0 {
			t.Error(at, n, p, e)
		}
		if l, p, e := pack.TakePool([]byte{0, 0, 0, 0}, at); e != api.ErrForm || len(l) != 0 || p != 0 {
			t.Error(at, l, p, e)
		}
	}
}

// P9.2: texts, each once, and their places; P9.4: and back.
func TestGatherAndSpread(t *testing.T) {
	for _, x := range []struct {
		l, pool string
		refs    []int
	}{
		{"a", "a", []int{0}}, {"a b c", "a b c", []int{0, 1, 2}}, {"b a b a c b", "b a c", []int{0, 1, 0, 1, 2, 0}}, {"x x x", "x", []int{0, 0, 0}},
		{"ab a b A", "ab a b A", []int{0, 1, 2, 3}},
	} {
		pool, refs := pack.Gather(strings.Fields(x.l))
		if !slices.Equal(pool, strings.Fields(x.pool)) || !slices.Equal(refs, x.refs) {
			t.Error(x, pool, refs)
		}
		if l, e := pack.Spread(pool, refs); e != api.OK || !slices.Equal(l, strings.Fields(x.l)) {
			t.Error(x, l, e)
		}
	}
	if pool, refs := pack.Gather(nil); len(pool) != 0 || len(refs) != 0 {
		t.Error(pool, refs)
	}
	if pool, refs := pack.Gather([]string{"", "\xff", "", "\x00"}); !slices.Equal(pool, []string{"", "\xff", "\x00"}) || !slices.Equal(refs, []int{0, 1, 0, 2}) {
		t.Error(pool, refs)
	}
	pool := []string{"a", "b", "b"}
	if l, e := pack.Spread(pool, []int{2, 0, 1, 0}); e != api.OK || !slices.Equal(l, []string{"b", "a", "b", "a"}) {
		t.Error(l, e)
	}
	if l, e := pack.Spread(nil, nil); e != api.OK || len(l) != 0 {
		t.Error(l, e)
	}
	for _, refs := range [][]int{{3}, {0, 3}, {-1}, {0, 1, -1, 0}, {most}, {-most - 1}} {
		if l, e := pack.Spread(pool, refs); e != api.ErrRef || len(l) != 0 {
			t.Error(refs, l, e)
		}
	}
	if l, e := pack.Spread(nil, []int{0}); e != api.ErrRef || len(l) != 0 {
		t.Error(l, e)
	}
}

// many are n texts, none twice.
func many(n int) []string {
	var out []string
	for i := range n {
		out = append(out, strconv.Itoa(i))
	}
	return out
}

// P9.3: pools, put and taken.
func TestPools(t *testing.T) {
	if b, e := pack.PutPool([]byte{5}, []string{"ab", "", "é"}); e != api.OK || string(b) != "\x05\x00\x03\x00\x02ab\x00\x00\x00\x02é" {
		t.Error(b, e)
	}
	for _, pool := range [][]string{nil, {""}, {"a"}, {"a", "b", ""}, many(500), {strings.Repeat("x", 400), "\xff\x00"}} {
		for _, ahead := range []string{"", "abc"} {
			b, e := pack.PutPool([]byte(ahead), pool)
			if e != api.OK {
				t.Fatal(pool, e)
			}
			l, at, e := pack.TakePool(append(bytes.Clone(b), 1, 2, 3), len(ahead))
			if e != api.OK || at != len(b) || !slices.Equal(l, pool) {
				t.Error(pool, l, at, e)
			}
			for cut := len(ahead); cut < len(b); cut++ {
				if l, at, e := pack.TakePool(b[:cut], len(ahead)); e != api.ErrForm || at != 0 || len(l) != 0 {
					t.Error(pool, cut, l, at, e)
				}
			}
		}
	}
	for _, l := range [][]string{{"a", "a"}, {"", "x", ""}, many(501), {strings.Repeat("x", 401)}, {"b", strings.Repeat("é", 201)}} {
		if b, e := pack.PutPool([]byte("q"), l); e != api.ErrArg || string(b) != "q" {
			t.Error(l, b, e)
		}
	}
}

// P9.3: bytes that are no pool's.
func TestTakePoolFaults(t *testing.T) {
	long := append([]byte{0, 1, 1, 145}, make([]byte, 401)...)
	full := []byte{0, 1, 1, 144}
	full = append(full, make([]byte, 400)...)
	var more []byte
	more = append(more, 1, 245)
	for _, s := range many(501) {
		more = append(append(more, 0, byte(len(s))), s...)
	}
	for _, b := range [][]byte{nil, {0}, {0, 1}, {0, 1, 0}, {0, 1, 0, 1}, {0, 2, 0, 0}, {0, 2, 0, 0, 0, 0}, {0, 2, 0, 1, 65, 0, 1, 65}, {255, 255}, long, more} {
		if l, at, e := pack.TakePool(b, 0); e != api.ErrForm || at != 0 || len(l) != 0 {
			t.Error(b, l, at, e)
		}
	}
	if l, at, e := pack.TakePool(full, 0); e != api.OK || at != 404 || len(l) != 1 {
		t.Error(l, at, e)
	}
	if l, at, e := pack.TakePool([]byte{0, 2, 0, 1, 65, 0, 1, 66}, 0); e != api.OK || at != 8 || !slices.Equal(l, []string{"A", "B"}) {
		t.Error(l, at, e)
	}
}

// R3: what comes out isn't what was handed in.
func TestApart(t *testing.T) {
	b := make([]byte, 1, 100)
	p, _ := pack.Put(b, 1, 1)
	q, _ := pack.Put(b, 2, 1)
	r, _ := pack.PutPool(b, []string{"x"})
	if p[1] != 1 || q[1] != 2 || r[1] != 0 || b[:2][1] != 0 || b[:3][2] != 0 {
		t.Error(p, q, r)
	}
	l := []string{"a", "b"}
	pool, refs := pack.Gather(l)
	out, _ := pack.Spread(pool, refs)
	l[0], pool[1] = "x", "y"
	if pool[0] != "a" || out[1] != "b" {
		t.Error(pool, out)
	}
}
