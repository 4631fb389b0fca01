package rule_test

import (
	"math/big"
	"strconv"
	"strings"
	"testing"

	"exergue/api"
	"exergue/oper"
	"exergue/rule"
)

func rep(s string, n int) string { return strings.Repeat(s, n) }

func rel(op byte, mod int, not bool, ends ...int) api.Rel {
	r := api.Rel{Op: op, Mod: mod, Not: not}
	for i := 0; i < len(ends); i += 2 {
		r.R = append(r.R, [2]int{ends[i], ends[i+1]})
	}
	return r
}

// known are rules and their conditions; where a rule isn't its condition's text, that stands beside it.
var known = []struct {
	s, own string
	c      api.Cond
}{
	{"n = 1", "", api.Cond{{rel('n', 0, false, 1, 1)}}},
	{"i = 1 and v = 0", "", api.Cond{{rel('i', 0, false, 1, 1), rel('v', 0, false, 0, 0)}}},
	{"n % 10 = 1 and n % 100 != 11", "", api.Cond{{rel('n', 10, false, 1, 1), rel('n', 100, true, 11, 11)}}},
	{"w = 0 or f = 2,4..6,9", "", api.Cond{{rel('w', 0, false, 0, 0)}, {rel('f', 0, false, 2, 2, 4, 6, 9, 9)}}},
	{"t = 0 or c = 1 and e = 2 or n = 3", "", api.Cond{{rel('t', 0, false, 0, 0)}, {rel('c', 0, false, 1, 1), rel('e', 0, false, 2, 2)}, {rel('n', 0, false, 3, 3)}}},
	{"n=1", "n = 1", api.Cond{{rel('n', 0, false, 1, 1)}}},
	{"n%10!=2..4,12..14and i=0or v!=1", "n % 10 != 2..4,12..14 and i = 0 or v != 1", api.Cond{{rel('n', 10, true, 2, 4, 12, 14), rel('i', 0, false, 0, 0)}, {rel('v', 0, true, 1, 1)}}},
	{"  n  %  7  !=  1  ..  2  ,  0  or  i = 5  ", "n % 7 != 1..2,0 or i = 5", api.Cond{{rel('n', 7, true, 1, 2, 0, 0)}, {rel('i', 0, false, 5, 5)}}},
	{"n = 999999999", "", api.Cond{{rel('n', 0, false, 999999999, 999999999)}}},
	{"n % 999999999 = 0..999999999", "", api.Cond{{rel('n', 999999999, false, 0, 999999999)}}},
	{"n % 1 = 0", "", api.Cond{{rel('n', 1, false, 0, 0)}}},
	{"n = 5,5,5..6,3", "", api.Cond{{rel('n', 0, false, 5, 5, 5, 5, 5, 6, 3, 3)}}},
	{"n = 1" + rep(",1", 19), "", api.Cond{{rel('n', 0, false, rep1(40)...)}}},
	{"n = 1and i = 1", "n = 1 and i = 1", api.Cond{{rel('n', 0, false, 1, 1), rel('i', 0, false, 1, 1)}}},
}

func rep1(n int) []int {
	var out []int
	for range n {
		out = append(out, 1)
	}
	return out
}

// P11.1, P11.2, P11.3: rules are read, and conditions have their texts.
func TestKnown(t *testing.T) {
	for _, x := range known {
		c, at, e := rule.Parse(x.s)
		if e != api.OK || at != 0 || !rule.Same(c, x.c) {
			t.Errorf("%q: %v, %d, %d", x.s, c, at, e)
		}
		own := x.own
		if own == "" {
			own = x.s
		}
		if got := rule.Text(x.c); got != own || !rule.Right(x.c) {
			t.Errorf("%q: %q, %v", x.s, got, rule.Right(x.c))
		}
		if back, _, e := rule.Parse(own); e != api.OK || !rule.Same(back, x.c) {
			t.Errorf("%q: %v, %d", own, back, e)
		}
	}
}

// P11.1: the first byte that begins what can't go on.
func TestFaults(t *testing.T) {
	for s, place := range map[string]int{
		"": 0, "  ": 2, "n": 1, "n ": 2, "n %": 3, "n % ": 4, "n % 10": 6, "n =": 3, "n = ": 4, "n !=": 4, "n = 1,": 6, "n = 1, ": 7, "n = 1..": 7, "n = 1 .. ": 9,
		"n = 1 and": 9, "n = 1 or": 8, "n = 1 and ": 10, "n = 1 or   ": 11, "n = 1 and n": 11,
		"x = 1": 0, "  x = 1": 2, "nn = 1": 0, "ni = 1": 0, "and": 0, "or n = 1": 0, "1 = 1": 0, "= 1": 0, "% 5": 0, "!": 0, "a": 0, "j = 1": 0,
		"n 1": 2, "n == 1": 3, "n = = 1": 4, "n is 1": 2, "n in 1": 2, "n < 1": 2, "n =! 1": 3, "n ! = 1": 2, "n %% 5 = 1": 3, "n mod 5 = 1": 2, "n % x": 4, "n % = 1": 4, "n !5": 2,
		"n = x": 4, "n = -1": 4, "n = +1": 4, "n = ,1": 4, "n = ..1": 4, "n = 1,,2": 6, "n = 1.2": 5, "n = 1...2": 7, "n = 1..2..3": 8, "n = 1 2": 6, "n = 1,x": 6, "n = 1 . . 2": 6,
		"n = 01": 4, "n = 00": 4, "n = 1234567890": 4, "n = 0123456789": 4, "n = 1..01": 7, "n = 1..1234567890": 7, "n = 1,00": 6,
		"n = 5..5": 7, "n = 5..4": 7, "n = 5 .. 4": 9, "n = 0..0": 7, "n = 1..2,3..2": 12, "n = 999999999..0": 15,
		"n % 0 = 1": 4, "n % 00 = 1": 4, "n % 010 = 1": 4, "n %  1000000000 = 1": 5, "n % 5..6 = 1": 5, "n % 5,6 = 1": 5,
		"n = 1 and and n = 1": 10, "n = 1 or and n = 1": 9, "n = 1 an n = 2": 6, "n = 1 andn = 2": 6, "n = 1 orn = 2": 6, "n = 1 anda = 2": 6, "n = 1 andz = 2": 6, "az = 1": 0, "n = 1 nor n = 2": 6, "n = 1andi = 2": 5, "n = 1 & n = 2": 6,
		"n = 1 and x = 2": 10, "n = 1 or n = 01": 13, "n = 1;": 5, "(n = 1)": 0, "n = 1\tand n = 2": 5, "\tn = 1": 0, "n = 1\n": 5, "n\t= 1": 1, "n = 1\xff": 5, "é = 1": 0, "n = 1 @integer 1": 6, "n n = 1": 2,
	} {
		if c, at, e := rule.Parse(s); e != api.ErrForm || at != place || len(c) != 0 {
			t.Errorf("%q: %v, %d (not %d), %d", s, c, at, place, e)
		}
	}
}

// P11.1: what is too much.
func TestTooMuch(t *testing.T) {
	for _, s := range []string{
		rep(" ", 401), rep("x", 401), "n = 1" + rep(" ", 396), rep("n=1or ", 66) + "n=1  ",
		rep("n=1 or ", 20) + "n=1", rep("n=1 and ", 20) + "n=1", rep("n=1 and n=1 or ", 10) + "n=1",
		"n = 1" + rep(",1", 20), "n = 0 and i != 2..3" + rep(",1", 20) + " or v = 1",
	} {
		if c, at, e := rule.Parse(s); e != api.ErrFull || at != 0 || len(c) != 0 {
			t.Errorf("%q: %v, %d, %d", s, c, at, e)
		}
	}
	for _, s := range []string{
		"n = 1" + rep(" ", 395), rep("n=1 or ", 19) + "n=1", rep("n=1 and ", 19) + "n=1", rep("n=1 and n=1 or ", 9) + "n=1 and n=1", "n = 1" + rep(",1", 19) + " or n = 1" + rep(",1", 19),
	} {
		if _, at, e := rule.Parse(s); e != api.OK || at != 0 {
			t.Errorf("%q: %d, %d", s, at, e)
		}
	}
	// That it can't go on tells more than that there is too much.
	if _, at, e := rule.Parse(rep("n=1 or ", 25)); e != api.ErrForm || at != 175 {
		t.Error(at, e)
	}
	if _, at, e := rule.Parse(rep("x", 400)); e != api.ErrForm || at != 0 {
		t.Error(at, e)
	}
}

// P11.2: which conditions are right.
func TestRight(t *testing.T) {
	far := 1<<63 - 1
	for i, c := range []api.Cond{
		nil, {}, {{}}, {{}, {rel('n', 0, false, 1, 1)}}, {{rel('n', 0, false, 1, 1)}, {}}, {{rel('n', 0, false)}}, {{rel('x', 0, false, 1, 1)}}, {{rel(0, 0, false, 1, 1)}}, {{rel(255, 0, false, 1, 1)}}, {{rel('N', 0, false, 1, 1)}},
		{{rel('n', -1, false, 1, 1)}}, {{rel('n', 1000000000, false, 1, 1)}}, {{rel('n', far, false, 1, 1)}}, {{rel('n', -far-1, false, 1, 1)}},
		{{rel('n', 0, false, 2, 1)}}, {{rel('n', 0, false, -1, 1)}}, {{rel('n', 0, false, -1, -1)}}, {{rel('n', 0, false, 1, 1000000000)}}, {{rel('n', 0, false, far, far)}}, {{rel('n', 0, true, -far-1, far)}},
		{{rel('n', 0, false, rep1(42)...)}},
	} {
		if rule.Right(c) {
			t.Error(i, c)
		}
	}
	var many api.Cond
	for i := range 21 {
		if right := i > 0; rule.Right(many) != right {
			t.Error(i)
		}
		many = append(many, []api.Rel{rel('n', 0, false, 1, 1)})
	}
	if rule.Right(many) {
		t.Error("21 relations")
	}
	// A text of 400 bytes may be, one of 401 not.
	for tens, right := range []bool{true, true, false} {
		var row []api.Rel
		for range 12 {
			row = append(row, rel('n', 123456789, false, 123456789, 123456789))
		}
		last := rel('n', 0, false, rep1(36)...)
		for i := range tens {
			last.R[i] = [2]int{10, 10}
		}
		c := api.Cond{append(row, last)}
		if n := len(rule.Text(c)); n != 399+tens || rule.Right(c) != right {
			t.Error(n, rule.Right(c))
		}
	}
	// What is read may be told by a longer text of its own.
	if c, _, e := rule.Parse(rep("n%123456789=123456789or ", 15) + "n=1"); e != api.OK || rule.Right(c) {
		t.Error(c, e)
	}
}

// P11.2: all of two is held against each other.
func TestSame(t *testing.T) {
	one := rel('n', 5, false, 1, 2)
	l := []api.Cond{
		nil, {{}}, {{one}}, {{one}, {}}, {{}, {one}}, {{one, one}}, {{one}, {one}}, {{rel('i', 5, false, 1, 2)}}, {{rel('n', 6, false, 1, 2)}}, {{rel('n', 5, true, 1, 2)}},
		{{rel('n', 5, false, 1, 3)}}, {{rel('n', 5, false, 2, 2)}}, {{rel('n', 5, false)}}, {{rel('n', 5, false, 1, 2, 1, 2)}},
	}
	for i, a := range l {
		for j, b := range l {
			if rule.Same(a, b) != (i == j) {
				t.Error(a, b)
			}
		}
	}
	if !rule.Same(nil, api.Cond{}) || !rule.Same(api.Cond{{}}, api.Cond{nil}) || !rule.Same(api.Cond{{{Op: 'n', R: [][2]int{}}}}, api.Cond{{{Op: 'n'}}}) {
		t.Error("none")
	}
}

// of is the Oper of a number as it is written, and a power.
func of(t *testing.T, s string, c int) api.Oper {
	t.Helper()
	whole, part, _ := strings.Cut(s, ".")
	figures := func(s string) []byte {
		var out []byte
		for _, c := range []byte(s) {
			out = append(out, c-'0')
		}
		return out
	}
	o, e := oper.Of(figures(whole), figures(part), c)
	if e != api.OK {
		t.Fatal(s)
	}
	return o
}

// P11.2, P11.3: what holds.
func TestHolds(t *testing.T) {
	for s, x := range map[string][2]string{
		"n = 1":                        {"1 1.0 1.000 01", "0 2 11 1.1 1.01 10 1000000000000000000000000000001"},
		"n != 1":                       {"0 2 1.1 0.5 11", "1 1.0"},
		"i = 1 and v = 0":              {"1", "1.0 2 0 1.5 11"},
		"n % 10 = 1 and n % 100 != 11": {"1 21 31 101 1.0 121 99999999999999999999999999901", "11 111 2 0 1.5 10 21.1 99999999999999999999999999911"},
		"n % 10 = 2..4":                {"2 3 4 12 22 1004", "1 5 0 2.5 10"},
		"n % 10 != 2..4":               {"1 5 0 2.5 10 3.3", "2 3 4 12"},
		"n = 2..4,7,9..10":             {"2 3 4 7 9 10 3.0", "1 5 6 8 11 2.5 0"},
		"n = 0 or n = 5":               {"0 5 0.0", "1 50 0.5"},
		"n = 0 or i = 5 and v = 1":     {"0 5.1 5.0", "5 5.11 1"},
		"v = 2":                        {"1.50 0.00", "1.5 2 1"},
		"w = 2":                        {"1.25 1.2500 1.05", "1.50 2 1.123"},
		"f = 50":                       {"1.50 2.050", "1.5 1.500 50"},
		"t = 5":                        {"1.5 1.50 1.500 1.05", "1 5 1.55 50"},
		"f % 10 = 1 and f % 100 != 11": {"0.1 0.21 3.01", "0.11 0.10 1 0.2"},
		"i % 1000000 = 0 and i != 0":   {"1000000 2000000.5 17000000", "0 1 1000001"},
		"n = 999999999":                {"999999999", "9999999990 1999999999 999999998"},
		"n % 1 = 0":                    {"0 1 7 1.0", "1.5"},
		"i = 0,1":                      {"0 1 0.5 1.9", "2 10"},
	} {
		c, _, e := rule.Parse(s)
		if e != api.OK {
			t.Fatal(s)
		}
		for i, numbers := range x {
			for _, n := range strings.Fields(numbers) {
				if rule.Holds(c, of(t, n, 0)) != (i == 0) {
					t.Errorf("%q, %s: %v", s, n, i != 0)
				}
			}
		}
	}
	for _, name := range []string{"c", "e"} {
		c, _, _ := rule.Parse(name + " = 6")
		if !rule.Holds(c, of(t, "1.5", 6)) || rule.Holds(c, of(t, "6", 0)) || rule.Holds(c, of(t, "1", 7)) {
			t.Error(name)
		}
	}
}

// P11.2: of many whole numbers what is left over holds as it should.
func TestHoldsMod(t *testing.T) {
	for _, m := range []int{1, 2, 7, 10, 999999999} {
		for n := range 60 {
			big1 := new(big.Int).Exp(big.NewInt(int64(n)), big.NewInt(9), nil)
			left := new(big.Int).Mod(big1, big.NewInt(int64(m))).Int64()
			c := api.Cond{{rel('n', m, false, 0, 0, 3, 5)}}
			if rule.Holds(c, of(t, big1.String(), 0)) != (left == 0 || left >= 3 && left <= 5) {
				t.Error(m, n)
			}
			c[0][0].Not = true
			if rule.Holds(c, of(t, big1.String(), 0)) != (left != 0 && (left < 3 || left > 5)) {
				t.Error(m, n)
			}
		}
	}
}

// P11.3: of all short texts of these pieces, what is read is right, and its text is read as it.
func TestAllShort(t *testing.T) {
	var all func(s string, n int)
	all = func(s string, n int) {
		c, at, e := rule.Parse(s)
		switch {
		case e == api.OK:
			if back, _, e := rule.Parse(rule.Text(c)); at != 0 || e != api.OK || !rule.Same(c, back) || !rule.Right(c) {
				t.Fatalf("%q: %q", s, rule.Text(c))
			}
		case e != api.ErrForm || len(c) != 0 || at > len(s):
			t.Fatalf("%q: %v, %d, %d", s, c, at, e)
		}
		for _, piece := range []string{"n", "=", "!=", "%", "1", "0", ",", "..", " ", "or", "and"} {
			if n > 0 {
				all(s+piece, n-1)
			}
		}
	}
	all("", 5)
	all("n=1", 4)
	all("n%"+strconv.Itoa(10)+"=0..1", 4)
}

// R3: what comes out isn't what comes out another time.
func TestApart(t *testing.T) {
	a, _, _ := rule.Parse("n = 1,2 and i = 3")
	b, _, _ := rule.Parse("n = 1,2 and i = 3")
	a[0][0].R[0][0], a[0][1].Op = 9, 'v'
	rule.Right(b)
	if rule.Text(b) != "n = 1,2 and i = 3" {
		t.Error(rule.Text(b))
	}
}
