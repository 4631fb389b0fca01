package shape_test

import (
	"slices"
	"strings"
	"testing"

	"exergue/api"
	"exergue/dec"
	"exergue/pat"
	"exergue/round"
	"exergue/samples"
	"exergue/shape"
)

var (
	latin = samples.Latin().S
	other = samples.Indian().S
)

func rep(s string, n int) string { return strings.Repeat(s, n) }

func read(t *testing.T, s string) api.Dec {
	t.Helper()
	d, at, e := dec.Read(s)
	if e != api.OK {
		t.Fatalf("%.30q: %d", s, at)
	}
	return d
}

func pattern(t *testing.T, s string) api.Pat {
	t.Helper()
	p, at, e := pat.Parse(s)
	if e != api.OK {
		t.Fatalf("%q: %d", s, at)
	}
	return p
}

// patterns are texts of patterns of all kinds.
var patterns = []string{"0", "#", "00", "#,##0", "0.00", "#.##", "#,##,##0.0#", "0.###", "@", "@@@", "@#", "@@##", "0E0", "0.0#E+00", "#E0", "00.0E0", "@@E0", "#,##0.##E+000", "000.000###"}

// numbers are texts of numbers of all kinds.
var numbers = []string{"0e0", "-0e0", "1e0", "-1e0", "5e-1", "15e-1", "-25e-2", "995e-3", "12345e-1", "1234567e0", "1234567e3", "-123456789e-4", "1e1000", "7e-1000", "-999999e-3", "1e-3", "12e-4", "100001e-3", "9e2", "45e17"}

// P17.1: rounded as the pattern says.
func TestRound(t *testing.T) {
	for _, x := range []struct {
		p      string
		digits int
		d      string
		mode   int
		out    string
	}{
		{"0", -1, "25e-1", api.HalfEven, "2e0"}, {"0.00", -1, "12345e-3", api.HalfUp, "1235e-2"}, {"0.0#", -1, "12345e-3", api.Down, "1234e-2"}, {"#,##0.###", -1, "-12345e-4", api.Ceil, "-1234e-3"},
		{"0.00", 0, "25e-1", api.HalfUp, "3e0"}, {"0", 3, "12345e-4", api.HalfOdd, "1235e-3"}, {"0.0", 40, "1e-41", api.Up, "1e-40"}, {"0.0", -7, "16e-2", api.HalfUp, "2e-1"},
		{"@@#", -1, "123456e0", api.HalfUp, "123e3"}, {"@@#", 0, "123456e-5", api.HalfUp, "123e-2"}, {"@", 40, "-15e0", api.Floor, "-2e1"}, {"@@@", -1, "0e0", api.Up, "0e0"},
		{"0E0", -1, "15e-1", api.HalfEven, "2e0"}, {"0.00E0", -1, "123456e9", api.HalfUp, "123e12"}, {"0.0#E+00", 0, "-123456e-9", api.Up, "-124e-6"}, {"@@@E0", -1, "123456e0", api.HalfUp, "1e5"}, {"00.0E0", 7, "123456e0", api.HalfUp, "12e4"},
	} {
		got, e := shape.Round(pattern(t, x.p), x.digits, read(t, x.d), x.mode)
		if e != api.OK || dec.Text(got) != x.out {
			t.Error(x, dec.Text(got), e)
		}
	}
	for _, x := range []struct {
		p string
		d string
		m int
		e api.Errno
	}{{"0", "15e-1", 8, api.ErrArg}, {"@", "15e-1", -1, api.ErrArg}, {"0E0", "15e-1", 9, api.ErrArg}, {"@", "12e1000", api.Up, api.ErrArg}, {"@", "99e999", api.Up, api.ErrFull}, {"0E0", "99e999", api.Up, api.ErrFull}} {
		if got, e := shape.Round(pattern(t, x.p), -1, read(t, x.d), x.m); e != x.e || !dec.Same(got, api.Dec{}) {
			t.Error(x, got, e)
		}
	}
	p := pattern(t, "0."+rep("0", 40))
	if got, e := shape.Round(p, -1, read(t, rep("9", 1000)+"e-41"), api.Up); e != api.OK || dec.Text(got) != "1e959" {
		t.Error(got, e)
	}
}

// P17.1: of each pattern and number it is one of chapter 6's.
func TestRoundModel(t *testing.T) {
	for _, s := range patterns {
		p := pattern(t, s)
		for _, n := range numbers {
			d := read(t, n)
			for _, digits := range []int{-1, 0, 2, 40} {
				for mode := -1; mode < 9; mode++ {
					var want api.Dec
					var err api.Errno
					switch {
					case strings.Contains(s, "E"):
						want, err = round.Sig(d, p.MaxFrac+1, mode)
					case strings.Contains(s, "@"):
						want, err = round.Sig(d, p.MaxSig, mode)
					case digits >= 0:
						want, err = round.To(d, -digits, mode)
					default:
						want, err = round.To(d, -p.MaxFrac, mode)
					}
					if got, e := shape.Round(p, digits, d, mode); e != err || !dec.Same(got, want) {
						t.Error(s, n, digits, mode, got, e)
					}
				}
			}
		}
	}
}

func row(s string) []byte {
	out := []byte(s)
	for i := range out {
		out[i] -= '0'
	}
	return out
}

// P17.1: a number's figures, whatever its side.
func TestFigures(t *testing.T) {
	for _, x := range []struct {
		p           string
		digits      int
		d           string
		whole, part string
		power       int
	}{
		{"0", -1, "12e0", "12", "", 0}, {"0", -1, "0e0", "0", "", 0}, {"#", -1, "0e0", "", "", 0}, {"#", -1, "5e-1", "", "5", 0}, {"0", -1, "5e-1", "0", "5", 0}, {"000", -1, "5e0", "005", "", 0}, {"00", -1, "123e0", "123", "", 0}, {"0", -1, "12e3", "12000", "", 0},
		{"0.00", -1, "1e0", "1", "00", 0}, {"0.00", -1, "15e-1", "1", "50", 0}, {"0.00", -1, "12345e-4", "1", "2345", 0}, {"0.00", -1, "12e-4", "0", "0012", 0}, {"0.0##", -1, "1e0", "1", "0", 0}, {"#.##", -1, "1e-3", "", "001", 0}, {"#.0", -1, "0e0", "", "0", 0},
		{"0", 2, "1e0", "1", "00", 0}, {"0.000", 1, "1e0", "1", "0", 0}, {"0.000", 0, "1e0", "1", "", 0}, {"0.000", 0, "125e-2", "1", "25", 0}, {"0", 40, "0e0", "0", rep("0", 40), 0},
		{"@", -1, "0e0", "0", "", 0}, {"@@@", -1, "0e0", "0", "00", 0}, {"@@@", -1, "5e0", "5", "00", 0}, {"@@@", -1, "12345e0", "12345", "", 0}, {"@@@", -1, "12e-3", "0", "0120", 0}, {"@@@", -1, "15e-1", "1", "50", 0}, {"@###", -1, "15e-1", "1", "5", 0}, {"@@", -1, "1e1", "10", "", 0}, {"@@@", -1, "1e1", "10", "0", 0}, {"@@@", -1, "12345e-2", "123", "45", 0}, {"@@@", 7, "5e0", "5", "00", 0}, {"@", 2, "5e0", "5", "", 0},
		{"0E0", -1, "0e0", "0", "", 0}, {"0E0", -1, "12e0", "1", "2", 1}, {"0E0", -1, "-12e-5", "1", "2", -4}, {"0.00E0", -1, "1e9", "1", "00", 9}, {"0.00E0", -1, "0e0", "0", "00", 0}, {"0.00E0", -1, "12345e0", "1", "2345", 4}, {"00E0", -1, "5e3", "05", "", 3}, {"#E0", -1, "5e3", "5", "", 3}, {"#E0", -1, "0e0", "", "", 0}, {"0.0E0", 5, "1e1", "1", "0", 1}, {"@@@E0", -1, "5e1", "5", "", 1}, {"@@E0", -1, "0e0", "", "", 0},
		{"0E0", -1, rep("7", 1000) + "e1000", "7", rep("7", 999), 1999}, {"0E0", -1, "7e-1000", "7", "", -1000}, {"0", -1, "7e-1000", "0", rep("0", 999) + "7", 0}, {"0", -1, rep("7", 1000) + "e1000", rep("7", 1000) + rep("0", 1000), "", 0},
	} {
		for _, side := range []string{"", "-"} {
			whole, part, power := shape.Figures(pattern(t, x.p), x.digits, read(t, side+strings.TrimPrefix(x.d, "-")))
			if !slices.Equal(whole, row(x.whole)) || !slices.Equal(part, row(x.part)) || power != x.power {
				t.Errorf("%q, %d, %.30s: %v, %v, %d", x.p, x.digits, x.d, whole, part, power)
			}
		}
	}
}

// P17.1: a number, written.
func TestWrite(t *testing.T) {
	for _, x := range []struct {
		p      string
		digits int
		d      string
		latin  string
		other  string
	}{
		{"#,##0.00", -1, "12345e-1", "1,234.50", "१\u00a0२३४,५०"}, {"#,##0.00", -1, "-12345e-1", "1,234.50", "१\u00a0२३४,५०"}, {"#,##,##0", -1, "1234567e0", "12,34,567", "१२\u00a0३४\u00a0५६७"}, {"0", -1, "1234567e0", "1234567", "१२३४५६७"}, {"#,##0", 3, "1234e0", "1,234.000", "१\u00a0२३४,०००"}, {"#", -1, "0e0", "", ""}, {"#.#", -1, "5e-1", ".5", ",५"}, {"0,000", -1, "5e0", "0,005", "०\u00a0००५"},
		{"0E0", -1, "12345e0", "1.2345E4", "१,२३४५×४"}, {"0E00", -1, "12e-6", "1.2E-05", "१,२×\u2212०५"}, {"0.0E+0", -1, "5e7", "5.0E+7", "५,०×+७"}, {"0.0E+000", -1, "5e-1000", "5.0E-1000", "५,०×\u2212१०००"}, {"0E+0", -1, "0e0", "0E+0", "०×+०"}, {"0E00", -1, "0e0", "0E00", "०×००"}, {"0E0", -1, "1e10", "1E10", "१×१०"}, {"#,#0E0", -1, "5e0", "5E0", "५×०"}, {"0,0,0E0", -1, "5e0", "0,0,5E0", "०\u00a0०\u00a0५×०"},
		{"@@@", -1, "1234567e0", "1234567", "१२३४५६७"}, {"@@@", -1, "0e0", "0.00", "०,००"}, {"#,##0.###", -1, "123456789e-9", "0.123456789", "०,१२३४५६७८९"},
	} {
		p, d := pattern(t, x.p), read(t, x.d)
		if got := string(shape.Write(latin, p, x.digits, d)); got != x.latin {
			t.Error(x, got)
		}
		if got := string(shape.Write(other, p, x.digits, d)); got != x.other {
			t.Error(x, got)
		}
	}
}

// P17.2: what is read.
func TestRead(t *testing.T) {
	for _, x := range []struct{ p, l, d string }{
		{"#,##0", "1,234", "1234e0"}, {"#,##0", "1,234.50", "12345e-1"}, {"#,##0", "0,001", "1e0"}, {"#,##0", "000", "0e0"}, {"#,##0", "", "0e0"}, {"0", "", "0e0"}, {"0", ".5", "5e-1"}, {"0", "0.50", "5e-1"}, {"0", "00.500", "5e-1"}, {"0.00", "7", "7e0"}, {"#,##,##0", "12,34,567.1", "12345671e-1"}, {"@@@", "1234567.80", "12345678e-1"}, {"0", "1200", "12e2"}, {"0", ".0", "0e0"},
		{"0E0", "1.5E3", "15e2"}, {"0E0", "E3", "0e0"}, {"0E0", ".5E3", "5e2"}, {"0E0", "1E-3", "1e-3"}, {"0E0", "1E+3", "1e3"}, {"0E0", "1E0003", "1e3"}, {"0E0", "12.50E+00", "125e-1"}, {"0E0", "0E100000", "0e0"}, {"0E0", "0E-100000", "0e0"}, {"0E0", "0.0E5", "0e0"}, {"#,##0E0", "1,000E2", "1e5"}, {"0E0", "1E" + rep("0", 39) + "7", "1e7"}, {"0E0", "1E-0", "1e0"},
		{"0", rep("7", 1000), rep("7", 1000) + "e0"}, {"0", "0." + rep("0", 999) + "1", "1e-1000"}, {"0", "1" + rep("0", 1000), "1e1000"}, {"0E0", "0." + rep("0", 1500) + "7E1501", "7e0"}, {"0E0", "1" + rep("0", 1100) + "E-200", "1e900"},
	} {
		if d, e := shape.Read(latin, pattern(t, x.p), []rune(x.l)); e != api.OK || dec.Text(d) != x.d {
			t.Errorf("%q, %.30q: %v, %d", x.p, x.l, d, e)
		}
	}
	if d, e := shape.Read(other, pattern(t, "#,##,##0.0E0"), []rune("१२\u00a0३४\u00a0५६७,५०×\u2212०३")); e != api.OK || dec.Text(d) != "12345675e-4" {
		t.Error(d, e)
	}
}

// P17.2: what isn't read.
func TestReadFaults(t *testing.T) {
	for _, x := range [][2]string{
		{"#,##0", "1234"}, {"#,##0", "12,34"}, {"#,##0", ",123"}, {"#,##0", "1,234,56"}, {"0", "1,234"}, {"#,##,##0", "1,234,567"}, {"0", "1."}, {"0", "."}, {"0", "1.2.3"}, {"0", "1.2,3"}, {"#,##0", "1.234,567"}, {"0", "-1"}, {"0", "+1"}, {"0", "a"}, {"0", "1a"}, {"0", " 1"}, {"0", "1 "}, {"0", "१"}, {"0", "1E5"}, {"0", "1%"}, {"0.0", "1.5E0"},
		{"0E0", "1"}, {"0E0", "1.5"}, {"0E0", ""}, {"0E0", "1E"}, {"0E0", "1E-"}, {"0E0", "1E+"}, {"0E0", "1E--1"}, {"0E0", "1E+-1"}, {"0E0", "1E1E1"}, {"0E0", "1E1.5"}, {"0E0", "1E1,0"}, {"0E0", "1.E5"}, {"0E0", "1E" + rep("0", 41)}, {"0E0", "1E100001"}, {"0E0", "0E100001"}, {"0E0", "0E-100001"}, {"0E0", "1E" + rep("9", 40)}, {"0E0", "0E" + rep("9", 40)}, {"0E0", "0E18446744073709551616"}, {"0E0", "0E9223372036854775808"}, {"0E0", "1e5"}, {"0E0", "E"}, {"0E0", "1E 5"}, {"0E0", "1E5-"}, {"0E0", "-1E5"},
		{"0E0", "1E1001"}, {"0E0", "1E-1001"}, {"0E0", "1E99999"}, {"0", rep("7", 1001)}, {"0", "0." + rep("0", 1000) + "1"}, {"0", "1" + rep("0", 1001)}, {"0E0", rep("7", 1001) + "E0"},
	} {
		if d, e := shape.Read(latin, pattern(t, x[0]), []rune(x[1])); e != api.ErrBack || !dec.Same(d, api.Dec{}) {
			t.Errorf("%q, %.30q: %v, %d", x[0], x[1], d, e)
		}
	}
}

// P17.3: what is written is read as it was; what is rounded is, rounded again, the same, and has no more figures than the pattern says.
func TestBack(t *testing.T) {
	for _, s := range patterns {
		p := pattern(t, s)
		for _, n := range numbers {
			for _, digits := range []int{-1, 0, 3} {
				d := read(t, n)
				bare := d
				bare.Neg = false
				for _, signs := range []api.Sym{latin, other} {
					if got, e := shape.Read(signs, p, shape.Write(signs, p, digits, d)); e != api.OK || !dec.Same(got, bare) {
						t.Errorf("%q, %s: %q: %v, %d", s, n, string(shape.Write(signs, p, digits, d)), got, e)
					}
				}
				for mode := range 8 {
					again(t, p, digits, d, mode)
				}
			}
		}
	}
}

func again(t *testing.T, p api.Pat, digits int, d api.Dec, mode int) {
	t.Helper()
	r, e := shape.Round(p, digits, d, mode)
	if e != api.OK {
		return
	}
	if two, e := shape.Round(p, digits, r, mode); e != api.OK || !dec.Same(two, r) {
		t.Error(pat.Text(p), dec.Text(d), dec.Text(r), e)
	}
	_, part, _ := shape.Figures(p, digits, r)
	most := p.MaxFrac
	switch {
	case p.Exp > 0:
	case p.MaxSig > 0:
		most = max(0, p.MaxSig-1-dec.Mag(r))
	case digits >= 0:
		most = digits
	}
	if len(part) > most {
		t.Error(pat.Text(p), dec.Text(r), part)
	}
}

// R3: what is handed in stays as it was.
func TestUntouched(t *testing.T) {
	d, l := read(t, "12345e-1"), []rune("1,234.5")
	for _, s := range patterns {
		p := pattern(t, s)
		r, _ := shape.Round(p, -1, d, 0)
		w, f, _ := shape.Figures(p, 2, d)
		for _, x := range [][]byte{r.D, w, f} {
			for i := range x {
				x[i] = 7
			}
		}
		shape.Read(latin, p, l)
		if dec.Text(d) != "12345e-1" || string(l) != "1,234.5" {
			t.Error(s)
		}
	}
}
