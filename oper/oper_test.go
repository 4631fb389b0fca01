package oper_test

import (
	"math/big"
	"slices"
	"strconv"
	"strings"
	"testing"

	"exergue/api"
	"exergue/oper"
)

const most = 1<<63 - 1

// row is a text's figures.
func row(s string) []byte {
	var out []byte
	for _, c := range []byte(s) {
		out = append(out, c-'0')
	}
	return out
}

// text is figures as a text; "0" of none.
func text(l []byte) string {
	s := ""
	for _, c := range l {
		s += strconv.Itoa(int(c))
	}
	if s == "" {
		return "0"
	}
	return s
}

func of(i, f string, w, c int) api.Oper { return api.Oper{I: row(i), F: row(f), W: w, C: c} }

// P7.1: what is told of figures.
func TestOf(t *testing.T) {
	for _, x := range []struct {
		whole, part string
		c           int
		o           api.Oper
	}{
		{"1", "50", 0, of("1", "50", 1, 0)}, {"", "", 0, of("", "", 0, 0)}, {"0", "0", 0, of("", "0", 0, 0)}, {"007", "", 3, of("7", "", 0, 3)},
		{"1000", "00100", 1000, of("1000", "00100", 3, 1000)}, {"000", "000", 1, of("", "000", 0, 1)}, {"10", "123", 0, of("10", "123", 3, 0)},
	} {
		got, e := oper.Of(row(x.whole), row(x.part), x.c)
		if e != api.OK || !oper.Same(got, x.o) || !oper.Right(got) {
			t.Error(x, got, e)
		}
	}
	for _, x := range []struct {
		whole, part []byte
		c           int
	}{{[]byte{10}, nil, 0}, {nil, []byte{10}, 0}, {[]byte{1, 255}, nil, 0}, {nil, []byte("5"), 0}, {nil, nil, -1}, {nil, nil, 1001}, {nil, nil, most}, {nil, nil, -most - 1}} {
		if got, e := oper.Of(x.whole, x.part, x.c); e != api.ErrArg || !oper.Same(got, api.Oper{}) {
			t.Error(x, got, e)
		}
	}
}

// P7.1: which are right.
func TestRight(t *testing.T) {
	for _, o := range []api.Oper{{}, of("1", "50", 1, 0), of("10", "", 0, 1000), of("", "000", 0, 0), of("9", "0009", 4, 5)} {
		if !oper.Right(o) {
			t.Error(o)
		}
	}
	for _, o := range []api.Oper{
		of("0", "", 0, 0), of("01", "", 0, 0), of("1", "50", 2, 0), of("1", "50", 0, 0), of("1", "50", 3, 0), of("1", "", 1, 0), of("1", "", -1, 0),
		of("1", "0", 1, 0), of("1", "", 0, -1), of("1", "", 0, 1001), of("1", "", 0, most), {I: []byte{10}}, {F: []byte{1, 10}, W: 2}, {I: []byte{1, 200}},
	} {
		if oper.Right(o) {
			t.Error(o)
		}
	}
}

// P7.1: all of two is held against each other.
func TestSame(t *testing.T) {
	l := []api.Oper{{}, of("1", "5", 1, 0), of("1", "50", 1, 0), of("2", "5", 1, 0), of("1", "5", 1, 1), of("1", "5", 0, 0), of("12", "5", 1, 0), of("", "5", 1, 0), of("5", "1", 1, 0)}
	for i, a := range l {
		for j, b := range l {
			if oper.Same(a, b) != (i == j) {
				t.Error(a, b)
			}
		}
	}
	if !oper.Same(api.Oper{}, api.Oper{I: []byte{}, F: []byte{}}) {
		t.Error("none")
	}
}

// P7.2: each operand.
func TestOperand(t *testing.T) {
	for _, x := range []struct {
		o    api.Oper
		want string // n i v w f t c e; - where it isn't whole
	}{
		{of("1", "50", 1, 0), "- 1 2 1 50 5 0 0"},
		{of("1", "", 0, 0), "1 1 0 0 0 0 0 0"},
		{of("", "", 0, 0), "0 0 0 0 0 0 0 0"},
		{of("", "00", 0, 7), "0 0 2 0 0 0 7 7"},
		{of("120", "00", 0, 0), "120 120 2 0 0 0 0 0"},
		{of("", "0304000", 4, 1000), "- 0 7 4 304000 304 1000 1000"},
		{of("12", "00000000000", 0, 30), "12 12 11 0 0 0 30 30"},
		{of("123456789012345678901234567890", "9", 1, 10), "- 123456789012345678901234567890 1 1 9 9 10 10"},
	} {
		for i, want := range strings.Fields(x.want) {
			name := "nivwftce"[i]
			l, ok := oper.Operand(x.o, name)
			if want == "-" {
				if ok || len(l) != 0 {
					t.Error(x.o, string(name), l, ok)
				}
			} else if !ok || text(l) != want || len(l) > 0 && l[0] == 0 {
				t.Error(x.o, string(name), l, ok, want)
			}
		}
		for c := range 256 {
			if l, ok := oper.Operand(x.o, byte(c)); !strings.Contains("nivwftce", string([]byte{byte(c)})) && (ok || len(l) != 0) {
				t.Error(x.o, c, l, ok)
			}
		}
	}
}

// P7.3, P7.4: what is left over.
func TestMod(t *testing.T) {
	for _, s := range []string{"", "0", "000", "1", "21", "007", "999999999", "1000000000", "1000000001", "123456789012345678901234567890", strings.Repeat("97", 500)} {
		n, _ := new(big.Int).SetString("0"+s, 10)
		for _, m := range []int{1, 2, 3, 7, 10, 100, 1000, 999999999, 1000000000, 1 << 29} {
			want := int(new(big.Int).Mod(n, big.NewInt(int64(m))).Int64())
			if got := oper.Mod(row(s), m); got != want {
				t.Error(s, m, got, want)
			}
			if got := oper.Mod(row("00"+s), m); got != want {
				t.Error(s, m, got, want)
			}
		}
	}
}

// P7.3: between two numbers, of any size.
func TestIn(t *testing.T) {
	ends := []int{-most - 1, -1, 0, 1, 2, 9, 10, 99, 100, 1000000000, most - 1, most}
	for _, s := range []string{"", "0", "1", "2", "9", "10", "11", "99", "100", "000099", "1000000000", "9223372036854775806", "9223372036854775807", "9223372036854775808", "9999999999999999999", "10000000000000000000", "18446744073709551616", "18446744073709551617", "00018446744073709551626", "000000000000000000000000000002", strings.Repeat("9", 900)} {
		n, _ := new(big.Int).SetString("0"+s, 10)
		for _, from := range ends {
			for _, to := range ends {
				want := n.Cmp(big.NewInt(int64(from))) >= 0 && n.Cmp(big.NewInt(int64(to))) <= 0
				if oper.In(row(s), from, to) != want {
					t.Error(s, from, to, !want)
				}
			}
		}
	}
}

// P7.4: noughts ahead of whole tell nothing.
func TestAhead(t *testing.T) {
	for _, s := range []string{"", "5", "120"} {
		for _, f := range []string{"", "0", "120"} {
			a, _ := oper.Of(row(s), row(f), 2)
			b, e := oper.Of(row("000"+s), row(f), 2)
			if e != api.OK || !oper.Same(a, b) {
				t.Error(s, f, a, b)
			}
		}
	}
}

// R3: what comes out isn't what was handed in.
func TestApart(t *testing.T) {
	w, p := row("12"), row("34")
	o, _ := oper.Of(w, p, 0)
	w[0], p[0] = 9, 9
	if !oper.Same(o, of("12", "34", 2, 0)) {
		t.Error(o)
	}
	o = of("12", "", 0, 0)
	for _, name := range []byte("ni") {
		l, _ := oper.Operand(o, name)
		l[0] = 7
		if !slices.Equal(o.I, row("12")) {
			t.Error(o)
		}
	}
}
