package round_test

import (
	"math/big"
	"slices"
	"strings"
	"testing"

	"exergue/api"
	"exergue/dec"
	"exergue/round"
)

const most = 1<<63 - 1

func read(t *testing.T, s string) api.Dec {
	t.Helper()
	d, at, e := dec.Read(s)
	if e != api.OK {
		t.Fatalf("%q: %d", s, at)
	}
	return d
}

func rep(s string, n int) string { return strings.Repeat(s, n) }

// power is k times ten to the power p, as a fraction.
func power(k, p int) *big.Rat {
	n := new(big.Int).Exp(big.NewInt(10), big.NewInt(int64(max(p, -p))), nil)
	r := new(big.Rat).SetInt(n)
	if p < 0 {
		r.Inv(r)
	}
	return r.Mul(r, new(big.Rat).SetInt64(int64(k)))
}

func rat(d api.Dec) *big.Rat {
	s := "0"
	for _, c := range d.D {
		s += string('0' + rune(c))
	}
	n, _ := new(big.Int).SetString(s, 10)
	r := new(big.Rat).SetInt(n)
	r.Mul(r, power(1, d.E))
	if d.Neg {
		r.Neg(r)
	}
	return r
}

// model rounds a number to a unit, once more: the whole multiple of it, without its side.
func model(d api.Dec, k, place, mode int) (many *big.Int, fits bool) {
	q := rat(d)
	q.Abs(q)
	q.Quo(q, power(k, place))
	near := new(big.Int).Quo(q.Num(), q.Denom())
	left := new(big.Rat).Sub(q, new(big.Rat).SetInt(near))
	if left.Sign() == 0 {
		return near, true
	}
	far := new(big.Int).Add(near, big.NewInt(1))
	half := left.Cmp(big.NewRat(1, 2))
	odd := near.Bit(0) == 1
	up := half > 0
	switch mode {
	case api.Up:
		up = true
	case api.Down:
		up = false
	case api.Ceil:
		up = !d.Neg
	case api.Floor:
		up = d.Neg
	case api.HalfUp:
		up = half >= 0
	case api.HalfEven:
		up = up || half == 0 && odd
	case api.HalfOdd:
		up = up || half == 0 && !odd
	}
	if up {
		return far, false
	}
	return near, false
}

// P6.1: which are ways.
func TestIs(t *testing.T) {
	for m := -3; m < 12; m++ {
		if round.Is(m) != (m >= 0 && m <= 7) {
			t.Error(m)
		}
	}
	if round.Is(most) || round.Is(-most-1) || round.Is(1<<32) {
		t.Error("far ones")
	}
}

// P6.2: each way, of numbers between two, in the middle, and next to it.
func TestTo(t *testing.T) {
	modes := []int{api.Up, api.Down, api.Ceil, api.Floor, api.HalfUp, api.HalfDown, api.HalfEven, api.HalfOdd}
	for in, want := range map[string][8]string{
		"25e-1":      {"3e0", "2e0", "3e0", "2e0", "3e0", "2e0", "2e0", "3e0"},
		"-25e-1":     {"-3e0", "-2e0", "-2e0", "-3e0", "-3e0", "-2e0", "-2e0", "-3e0"},
		"35e-1":      {"4e0", "3e0", "4e0", "3e0", "4e0", "3e0", "4e0", "3e0"},
		"-35e-1":     {"-4e0", "-3e0", "-3e0", "-4e0", "-4e0", "-3e0", "-4e0", "-3e0"},
		"24e-1":      {"3e0", "2e0", "3e0", "2e0", "2e0", "2e0", "2e0", "2e0"},
		"26e-1":      {"3e0", "2e0", "3e0", "2e0", "3e0", "3e0", "3e0", "3e0"},
		"251e-2":     {"3e0", "2e0", "3e0", "2e0", "3e0", "3e0", "3e0", "3e0"},
		"-249e-2":    {"-3e0", "-2e0", "-2e0", "-3e0", "-2e0", "-2e0", "-2e0", "-2e0"},
		"2500001e-6": {"3e0", "2e0", "3e0", "2e0", "3e0", "3e0", "3e0", "3e0"},
		"2499999e-6": {"3e0", "2e0", "3e0", "2e0", "2e0", "2e0", "2e0", "2e0"},
		"5e-1":       {"1e0", "0e0", "1e0", "0e0", "1e0", "0e0", "0e0", "1e0"},
		"-5e-1":      {"-1e0", "-0e0", "-0e0", "-1e0", "-1e0", "-0e0", "-0e0", "-1e0"},
		"4e-1":       {"1e0", "0e0", "1e0", "0e0", "0e0", "0e0", "0e0", "0e0"},
		"-1e-5":      {"-1e0", "-0e0", "-0e0", "-1e0", "-0e0", "-0e0", "-0e0", "-0e0"},
		"995e-1":     {"1e2", "99e0", "1e2", "99e0", "1e2", "99e0", "1e2", "99e0"},
		"0e0":        {"0e0", "0e0", "0e0", "0e0", "0e0", "0e0", "0e0", "0e0"},
		"-0e0":       {"-0e0", "-0e0", "-0e0", "-0e0", "-0e0", "-0e0", "-0e0", "-0e0"},
		"7e3":        {"7e3", "7e3", "7e3", "7e3", "7e3", "7e3", "7e3", "7e3"},
	} {
		for i, m := range modes {
			if got, e := round.To(read(t, in), 0, m); e != api.OK || dec.Text(got) != want[i] {
				t.Errorf("%s, %d: %s, %d, not %s", in, m, dec.Text(got), e, want[i])
			}
		}
	}
	for _, x := range []struct {
		in    string
		place int
		out   string
	}{{"12345e-2", -1, "1235e-1"}, {"12345e-2", 1, "12e1"}, {"12345e-2", 2, "1e2"}, {"12345e-2", 3, "0e0"}, {"6e2", 3, "1e3"}, {"-6e2", 3, "-1e3"}, {"6e2", 4, "0e0"}, {"6e2", 1000, "0e0"}, {"6e999", 1000, "1e1000"}, {"6e-1000", -999, "1e-999"}, {"6e-1000", -1000, "6e-1000"}} {
		if got, e := round.To(read(t, x.in), x.place, api.HalfUp); e != api.OK || dec.Text(got) != x.out {
			t.Error(x, dec.Text(got), e)
		}
	}
}

// numbers are right Decs of all kinds.
func numbers(t *testing.T) []api.Dec {
	var out []api.Dec
	for _, f := range []string{"1", "5", "15", "25", "49", "5" + rep("0", 30) + "1", "4" + rep("9", 30), "75", "125", "375", "251", "1051", "999", "1000001", "123456789012345678901234567890123", "99999999999999999999999"} {
		for _, e := range []string{"0", "1", "-1", "-2", "-3", "5", "-9", "-30", "-33", "12"} {
			out = append(out, read(t, f+"e"+e), read(t, "-"+f+"e"+e))
		}
	}
	return append(out, read(t, "0e0"), read(t, "-0e0"))
}

// P6.1, P6.2, P6.3: Inc, of many numbers and units, against fractions.
func TestInc(t *testing.T) {
	for _, d := range numbers(t) {
		for _, k := range []int{1, 2, 3, 5, 7, 10, 25, 50, 999, 1 << 20, 999999999, 1000000000} {
			for _, place := range []int{0, 1, -1, -2, 3, -31, 20} {
				one(t, d, k, place)
			}
		}
	}
}

// one holds all ways of one number and unit against the model, and against one another.
func one(t *testing.T, d api.Dec, k, place int) {
	var tells [8]api.Dec
	for mode := range 8 {
		got, e := round.Inc(d, k, place, mode)
		many, fits := model(d, k, place, mode)
		want := new(big.Rat).Mul(new(big.Rat).SetInt(many), power(k, place))
		if d.Neg {
			want.Neg(want)
		}
		if e != api.OK || rat(got).Cmp(want) != 0 || got.Neg != d.Neg || !dec.Right(got) {
			t.Fatalf("%s by %de%d, %d: %s, %d", dec.Text(d), k, place, mode, dec.Text(got), e)
		}
		if round.Fits(d, k, place) != fits || fits && !dec.Same(got, d) || !round.Fits(got, k, place) {
			t.Fatalf("%s by %de%d: fits?", dec.Text(d), k, place)
		}
		if again, e := round.Inc(got, k, place, mode); e != api.OK || !dec.Same(again, got) {
			t.Fatalf("%s by %de%d, again: %s", dec.Text(d), k, place, dec.Text(again))
		}
		tells[mode] = got
	}
	low, high := tells[api.Floor], tells[api.Ceil]
	if dec.Cmp(low, d) > 0 || dec.Cmp(d, high) > 0 {
		t.Fatalf("%s isn't between", dec.Text(d))
	}
	for _, x := range tells {
		if !dec.Same(x, low) && !dec.Same(x, high) {
			t.Fatalf("%s: %s is neither", dec.Text(d), dec.Text(x))
		}
	}
	turned := api.Dec{Neg: !d.Neg, D: d.D, E: d.E}
	if x, _ := round.Inc(turned, k, place, api.Ceil); !dec.Same(api.Dec{Neg: d.Neg, D: x.D, E: x.E}, low) {
		t.Fatalf("%s turned: %s", dec.Text(d), dec.Text(x))
	}
}

// P6.3: a greater one isn't rounded to less.
func TestOrder(t *testing.T) {
	l := numbers(t)
	slices.SortFunc(l, dec.Cmp)
	for mode := range 8 {
		for _, u := range [][2]int{{1, 0}, {5, -1}, {3, 1}} {
			last, _ := round.Inc(l[0], u[0], u[1], mode)
			for _, d := range l {
				got, _ := round.Inc(d, u[0], u[1], mode)
				if dec.Cmp(last, got) > 0 {
					t.Error(mode, u, dec.Text(d))
				}
				last = got
			}
		}
	}
}

// P6.1, P6.2: no such way, or unit.
func TestArguments(t *testing.T) {
	d := read(t, "15e-1")
	for _, x := range [][3]int{
		{0, 0, 0}, {-1, 0, 0}, {1000000001, 0, 0}, {most, 0, 0}, {-most - 1, 0, 0}, {1, 1001, 0}, {1, -1001, 0}, {1, most, 0}, {1, -most - 1, 0},
		{1, 0, 8}, {1, 0, -1}, {1, 0, most}, {0, 2000, 9},
	} {
		for _, d := range []api.Dec{d, read(t, "0e0")} {
			if got, e := round.Inc(d, x[0], x[1], x[2]); e != api.ErrArg || !dec.Same(got, api.Dec{}) {
				t.Error(x, got, e)
			}
			if x[2] == 0 && round.Fits(d, x[0], x[1]) {
				t.Error(x)
			}
		}
	}
	for _, x := range [][2]int{{1001, 0}, {-1001, 0}, {most, 0}, {-most - 1, 0}, {0, 8}, {0, -1}} {
		if got, e := round.To(d, x[0], x[1]); e != api.ErrArg || !dec.Same(got, api.Dec{}) {
			t.Error(x, got, e)
		}
	}
	for _, x := range [][2]int{{0, 0}, {-1, 0}, {-most - 1, 0}, {1, 8}, {1, -1}, {most, 8}, {0, 8}} {
		for _, d := range []api.Dec{d, read(t, "-0e0")} {
			if got, e := round.Sig(d, x[0], x[1]); e != api.ErrArg || !dec.Same(got, api.Dec{}) {
				t.Error(x, got, e)
			}
		}
	}
	for _, x := range [][3]int{{1, 1000, 0}, {1000000000, -1000, 7}, {1, -1000, 0}} {
		if _, e := round.Inc(d, x[0], x[1], x[2]); e != api.OK {
			t.Error(x, e)
		}
	}
}

// P6.2: a Dec that isn't there.
func TestFull(t *testing.T) {
	for _, x := range []struct {
		in             string
		k, place, mode int
	}{
		{"1e0", 10, 1000, api.Up}, {"-1e-1000", 1000, 998, api.Up}, {"99e999", 1, 1000, api.Down},
		{rep("9", 1000) + "e1000", 1, 1000, api.Down}, {rep("1", 1000) + "e-3", 999999999, -3, api.Up},
	} {
		d := read(t, x.in)
		got, e := round.Inc(d, x.k, x.place, x.mode)
		many, fits := model(d, x.k, x.place, x.mode)
		full := false
		if !fits {
			l := []byte(many.Mul(many, big.NewInt(int64(x.k))).String())
			for i := range l {
				l[i] -= '0'
			}
			_, err := dec.Norm(false, l, x.place)
			full = err != api.OK
		}
		if full != (e == api.ErrFull) || full && !dec.Same(got, api.Dec{}) || !full && e != api.OK {
			t.Errorf("%.20s: %v, %d", x.in, full, e)
		}
	}
	if got, e := round.Inc(read(t, "1e0"), 10, 1000, api.Up); e != api.ErrFull || !dec.Same(got, api.Dec{}) {
		t.Error(got, e)
	}
	if got, e := round.Inc(read(t, "1"+rep("0", 998)+"1e0"), 9, -3, api.HalfUp); e != api.ErrFull || !dec.Same(got, api.Dec{}) {
		t.Error(got, e)
	}
}

// P6.2: rounded to so many figures.
func TestSig(t *testing.T) {
	for _, x := range []struct {
		in   string
		n    int
		mode int
		out  string
	}{
		{"12345e-2", 1, api.HalfUp, "1e2"}, {"12345e-2", 2, api.HalfUp, "12e1"}, {"12345e-2", 4, api.HalfUp, "1235e-1"}, {"12345e-2", 4, api.HalfEven, "1234e-1"},
		{"12345e-2", 5, api.Up, "12345e-2"}, {"12345e-2", 6, api.Up, "12345e-2"}, {"12345e-2", most, api.Up, "12345e-2"},
		{"999e0", 2, api.HalfUp, "1e3"}, {"-999e0", 2, api.Down, "-99e1"}, {"-123e-9", 2, api.Floor, "-13e-8"}, {"-123e-9", 2, api.Ceil, "-12e-8"},
		{"0e0", 1, api.Up, "0e0"}, {"-0e0", 3, api.Up, "-0e0"}, {"0e0", most, api.Up, "0e0"},
		{"15e-1000", 1, api.Up, "2e-999"}, {"15e-1000", 2, api.Up, "15e-1000"}, {"15e-1000", 3, api.Up, "15e-1000"}, {"15e-1000", 2002, api.Up, "15e-1000"},
		{"123e998", 1, api.Down, "1e1000"}, {"123e998", 3, api.Down, "123e998"}, {rep("7", 1000) + "e1000", 1000, api.Up, rep("7", 1000) + "e1000"},
		{rep("7", 1000) + "e1000", 5000, api.Up, rep("7", 1000) + "e1000"},
	} {
		if got, e := round.Sig(read(t, x.in), x.n, x.mode); e != api.OK || dec.Text(got) != x.out {
			t.Errorf("%.20s, %d, %d: %.30s, %d", x.in, x.n, x.mode, dec.Text(got), e)
		}
	}
	for _, x := range []struct {
		in string
		n  int
	}{{"12e1000", 1}, {rep("7", 1000) + "e1000", 999}, {rep("7", 1000) + "e1000", 1}} {
		if got, e := round.Sig(read(t, x.in), x.n, api.Down); e != api.ErrArg || !dec.Same(got, api.Dec{}) {
			t.Errorf("%.20s: %v, %d", x.in, got, e)
		}
	}
	if got, e := round.Sig(read(t, "99e999"), 1, api.Up); e != api.ErrFull || !dec.Same(got, api.Dec{}) {
		t.Error(got, e)
	}
}

// R3: what comes out isn't what was handed in.
func TestApart(t *testing.T) {
	for mode := range 8 {
		d := read(t, "1205e-1")
		a, _ := round.To(d, -1, mode)
		b, _ := round.Sig(d, most, mode)
		c, _ := round.To(d, 1, mode)
		if dec.Text(d) != "1205e-1" {
			t.Error(d)
		}
		d.D[0] = 9
		if dec.Text(a) != "1205e-1" || dec.Text(b) != "1205e-1" || c.D[0] != 1 {
			t.Error(a, b, c)
		}
	}
}
