package dec_test

import (
	"math/big"
	"regexp"
	"slices"
	"strings"
	"testing"

	"exergue/api"
	"exergue/dec"
)

const most = 1<<63 - 1

// of is the Dec of a text, by hand: a side, figures, and a power.
func of(neg bool, figures string, e int) api.Dec {
	d := api.Dec{Neg: neg, E: e}
	for _, c := range []byte(figures) {
		d.D = append(d.D, c-'0')
	}
	return d
}

// row is a text's figures.
func row(s string) []byte { return of(false, s, 0).D }

func rep(s string, n int) string { return strings.Repeat(s, n) }

// big1 is a number as a fraction.
func big1(d api.Dec) *big.Rat {
	s := "0"
	for _, c := range d.D {
		s += string('0' + rune(c))
	}
	n, _ := new(big.Int).SetString(s, 10)
	r := new(big.Rat).SetInt(n)
	p := new(big.Rat).SetInt(new(big.Int).Exp(big.NewInt(10), big.NewInt(int64(max(d.E, -d.E))), nil))
	if d.E < 0 {
		p.Inv(p)
	}
	r.Mul(r, p)
	if d.Neg {
		r.Neg(r)
	}
	return r
}

// some are right Decs of all kinds.
func some() []api.Dec {
	var out []api.Dec
	for _, f := range []string{"", "1", "5", "9", "12", "105", "999", "123456789", rep("9", 1000), "1" + rep("0", 998) + "1", rep("123", 100)} {
		for _, e := range []int{0, 1, -1, 2, -3, 7, -9, 999, 1000, -999, -1000} {
			if f == "" && e != 0 {
				continue
			}
			out = append(out, of(false, f, e), of(true, f, e))
		}
	}
	return out
}

// P5.1: which are right.
func TestRight(t *testing.T) {
	for _, d := range some() {
		if !dec.Right(d) {
			t.Error(dec.Text(d))
		}
	}
	for _, d := range []api.Dec{
		of(false, "", 1), of(true, "", -1), of(false, "0", 0), of(false, "01", 0), of(false, "10", 0), of(true, "010", 2),
		of(false, "1", 1001), of(false, "1", -1001), of(false, "1", most), of(false, "1", -most-1),
		of(false, rep("1", 1001), 0), {D: []byte{10}}, {D: []byte{1, 255, 1}}, {D: []byte{'1'}}, {D: []byte{1, 1, 10}},
	} {
		if dec.Right(d) {
			t.Error(d)
		}
	}
}

// P5.1: all of two is held against each other.
func TestSame(t *testing.T) {
	l := some()
	for i, a := range l {
		for j, b := range l {
			if dec.Same(a, b) != (i == j) {
				t.Error(dec.Text(a), dec.Text(b))
			}
		}
	}
	if !dec.Same(api.Dec{}, api.Dec{D: []byte{}}) || dec.Same(api.Dec{}, api.Dec{Neg: true}) || dec.Same(of(false, "12", 0), of(false, "1", 0)) {
		t.Error("nought")
	}
}

// P5.1: figures, times a power of ten, as the right Dec.
func TestNorm(t *testing.T) {
	for _, x := range []struct {
		l    string
		e    int
		d    string
		e2   int
		errs api.Errno
	}{
		{"050", 1, "5", 2, api.OK}, {"", 0, "", 0, api.OK}, {"", 77, "", 0, api.OK}, {"000", -5, "", 0, api.OK},
		{"123", 0, "123", 0, api.OK}, {"1020", -7, "102", -6, api.OK}, {"00102000", 3, "102", 6, api.OK},
		{"1", 1000, "1", 1000, api.OK}, {"1", 1001, "", 0, api.ErrFull}, {"10", 999, "1", 1000, api.OK}, {"10", 1000, "", 0, api.ErrFull},
		{"1", -1000, "1", -1000, api.OK}, {"1", -1001, "", 0, api.ErrFull}, {"10", -1001, "1", -1000, api.OK}, {"100", -1003, "", 0, api.ErrFull},
		{rep("7", 1000), 0, rep("7", 1000), 0, api.OK}, {rep("7", 1001), 0, "", 0, api.ErrFull},
		{rep("0", 500) + rep("7", 1000) + rep("0", 500), 5, rep("7", 1000), 505, api.OK},
		{"1" + rep("0", 3000), -2500, "1", 500, api.OK}, {"1" + rep("0", 3000), -1999, "", 0, api.ErrFull},
		{"", 1 << 40, "", 0, api.OK}, {"0", -1 << 40, "", 0, api.OK}, {"", 1<<40 + 1, "", 0, api.ErrFull}, {"0", -1<<40 - 1, "", 0, api.ErrFull},
		{"1", 1 << 40, "", 0, api.ErrFull}, {"1", most, "", 0, api.ErrFull}, {"1", -most - 1, "", 0, api.ErrFull}, {"", most, "", 0, api.ErrFull},
		{"100", most, "", 0, api.ErrFull},
	} {
		for _, neg := range []bool{false, true} {
			want := of(neg, x.d, x.e2)
			if x.errs != api.OK {
				want = api.Dec{}
			}
			if d, e := dec.Norm(neg, row(x.l), x.e); e != x.errs || !dec.Same(d, want) {
				t.Errorf("%.20s e%d: %v, %d", x.l, x.e, d, e)
			}
		}
	}
	for _, l := range [][]byte{{10}, {1, 2, 255}, {'0'}, {0, 10, 0}, append(row(rep("1", 1001)), 10)} {
		for _, e := range []int{0, 5000, most} {
			if d, err := dec.Norm(true, l, e); err != api.ErrArg || !dec.Same(d, api.Dec{}) {
				t.Error(l, e, d, err)
			}
		}
	}
}

// P5.2: a number, times a power of ten; P5.4: and back.
func TestShift(t *testing.T) {
	for _, d := range some() {
		for _, n := range []int{0, 1, -1, 5, -700, 2000, -2000, 2001, -2001, 1 << 40, -1 << 40, 1<<40 + 1, -1<<40 - 1, most, -most - 1} {
			got, e := dec.Shift(d, n)
			far := n < -1<<40 || n > 1<<40
			switch {
			case !far && len(d.D) == 0:
				if e != api.OK || !dec.Same(got, d) {
					t.Error(d, n, got, e)
				}
			case far || d.E+n < -1000 || d.E+n > 1000:
				if e != api.ErrFull || !dec.Same(got, api.Dec{}) {
					t.Error(dec.Text(d), n, got, e)
				}
			default:
				if e != api.OK || !dec.Same(got, api.Dec{Neg: d.Neg, D: d.D, E: d.E + n}) || !dec.Right(got) {
					t.Error(dec.Text(d), n, got, e)
				}
				if back, e := dec.Shift(got, -n); e != api.OK || !dec.Same(back, d) {
					t.Error(dec.Text(d), n, back, e)
				}
			}
		}
	}
}

// P5.2: how far the first figure is ahead of the point.
func TestMag(t *testing.T) {
	for _, x := range []struct {
		d   api.Dec
		mag int
	}{
		{of(false, "", 0), 0}, {of(true, "", 0), 0}, {of(false, "1", 0), 0}, {of(true, "9", 3), 3}, {of(false, "123", 0), 2},
		{of(false, "123", -2), 0}, {of(false, "123", -3), -1}, {of(false, "5", -1000), -1000}, {of(false, rep("1", 1000), 1000), 1999},
	} {
		if m := dec.Mag(x.d); m != x.mag {
			t.Error(dec.Text(x.d), m)
		}
	}
}

// P5.2, P5.4: Cmp is the order of numbers.
func TestCmp(t *testing.T) {
	l := append(some(), of(false, "11", -1), of(false, "109", 0), of(false, "1", -2), of(true, "1001", -3), of(false, "1001", -3), of(false, "1000001", -6), of(true, "99", 1))
	var r []*big.Rat
	for _, d := range l {
		r = append(r, big1(d))
	}
	for i, a := range l {
		for j, b := range l {
			if got := dec.Cmp(a, b); got != r[i].Cmp(r[j]) {
				t.Errorf("%.30s, %.30s: %d", dec.Text(a), dec.Text(b), got)
			}
		}
	}
}

// P5.2: the figure of each place.
func TestAt(t *testing.T) {
	for _, x := range []struct {
		d     api.Dec
		place int
		c     byte
	}{
		{of(false, "123", 0), 0, 3}, {of(false, "123", 0), 1, 2}, {of(true, "123", 0), 2, 1}, {of(false, "123", 0), 3, 0}, {of(false, "123", 0), -1, 0},
		{of(false, "123", -2), -2, 3}, {of(false, "123", -2), 0, 1}, {of(false, "123", -2), -3, 0}, {of(false, "7", 1000), 1000, 7},
		{of(false, "7", 1000), 0, 0}, {of(false, "7", -1000), -1000, 7}, {of(false, "7", -1000), 0, 0},
		{of(false, "", 0), 0, 0}, {of(false, "", 0), 5, 0}, {of(false, "19", 1000), most, 0}, {of(false, "19", -1000), most, 0},
		{of(false, "19", 1000), -most - 1, 0}, {of(false, "19", -1000), -most - 1, 0},
	} {
		if c := dec.At(x.d, x.place); c != x.c {
			t.Error(dec.Text(x.d), x.place, c)
		}
	}
	for _, d := range some() {
		for i, c := range d.D {
			if p := d.E + len(d.D) - 1 - i; dec.At(d, p) != c {
				t.Error(dec.Text(d), p)
			}
		}
	}
}

// P5.3: texts, and back.
func TestText(t *testing.T) {
	for s, d := range map[string]api.Dec{
		"0e0": of(false, "", 0), "-0e0": of(true, "", 0), "5e2": of(false, "5", 2), "-12e-3": of(true, "12", -3), "1e0": of(false, "1", 0),
		"105e1000": of(false, "105", 1000), "-9e-1000": of(true, "9", -1000), rep("9", 1000) + "e-999": of(false, rep("9", 1000), -999),
	} {
		if got := dec.Text(d); got != s {
			t.Error(got, s)
		}
	}
	for _, d := range some() {
		if back, at, e := dec.Read(dec.Text(d)); e != api.OK || at != 0 || !dec.Same(back, d) {
			t.Error(dec.Text(d), back, at, e)
		}
	}
}

var form = regexp.MustCompile(`^-?(0e0|[1-9](\d*[1-9])?e(0|-?([1-9]\d{0,2}|1000)))$`)

// right tells whether s is a right Dec's text.
func right(s string) bool {
	n, _, _ := strings.Cut(strings.TrimPrefix(s, "-"), "e")
	return len(n) <= 1000 && form.MatchString(s)
}

// begins tells whether s begins a right Dec's text: if it does, one of these ends goes with it.
func begins(s string) bool {
	for _, end := range []string{"", "0", "1", "e0", "1e0", "0e0"} {
		if right(s + end) {
			return true
		}
	}
	return false
}

// readAs holds what Read tells against what form it is of.
func readAs(t *testing.T, s string) {
	t.Helper()
	d, at, e := dec.Read(s)
	if right(s) {
		if e != api.OK || at != 0 || dec.Text(d) != s || !dec.Right(d) {
			t.Errorf("%q: %v, %d, %d", s, d, at, e)
		}
		return
	}
	place := len(s)
	for i := range s {
		if !begins(s[:i+1]) {
			place = i
			break
		}
	}
	if e != api.ErrForm || at != place || !dec.Same(d, api.Dec{}) {
		t.Errorf("%.20q (%d): %v, %d (not %d), %d", s, len(s), d, at, place, e)
	}
}

// P5.3: the place of a fault is the first at which no right Dec's text goes on.
func TestReadFaults(t *testing.T) {
	for s, place := range map[string]int{
		"": 0, "-": 1, "+1e0": 0, "x": 0, "e": 0, "01e0": 1, "0": 1, "0e": 2, "0e1": 2, "0e-": 2, "0e00": 3, "-0e0x": 4, "00": 1,
		"1": 1, "10": 2, "10e": 2, "1e": 2, "1e-": 3, "1e-0": 3, "1e01": 3, "1e1001": 5, "1e2000": 5, "1e10000": 6, "1e-1001": 6, "1e+1": 2,
		"1.5e0": 1, "1E0": 1, "--1e0": 1, "1e1 ": 3, " 1e1": 0, "1e999x": 5, "1e--1": 3, "1\xffe0": 1,
	} {
		if d, at, e := dec.Read(s); e != api.ErrForm || at != place || !dec.Same(d, api.Dec{}) {
			t.Errorf("%q: %v, %d, %d", s, d, at, e)
		}
	}
	for _, s := range []string{
		rep("1", 1000) + "e0", rep("1", 1001) + "e0", rep("1", 999) + "0e0", rep("1", 998) + "0e0", rep("1", 998) + "01e0", rep("1", 999) + "0", rep("1", 1000), rep("1", 1000) + "0",
		rep("1", 1000) + "x", "-" + rep("1", 1001), "1" + rep("0", 998), "1" + rep("0", 998) + "1e1", "1" + rep("0", 999) + "1e1",
		"1e1000", "1e-1000", "1e999", "1e100", "1e1001", "1e9990", "1e10000",
	} {
		readAs(t, s)
	}
}

// P5.3: all short texts of these bytes.
func TestReadAll(t *testing.T) {
	var go1 func(s string, n int)
	go1 = func(s string, n int) {
		readAs(t, s)
		for _, c := range "-01e" {
			if n > 0 {
				go1(s+string(c), n-1)
			}
		}
	}
	go1("", 6)
}

// R3: what is handed in is neither written into nor kept.
func TestApart(t *testing.T) {
	l := row("1203")
	d, _ := dec.Norm(false, l, 0)
	s, _ := dec.Shift(d, 1)
	z := slices.Clone(l)
	for i := range l {
		l[i] = 7
	}
	if !slices.Equal(d.D, z) {
		t.Error(d)
	}
	d.D[0] = 9
	if !slices.Equal(s.D, z) {
		t.Error(s)
	}
}
