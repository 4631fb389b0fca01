package plur_test

import (
	"strings"
	"testing"

	"exergue/api"
	"exergue/oper"
	"exergue/plur"
	"exergue/rule"
)

// rules are rules of these categories and texts.
func rules(l ...any) []api.Rule {
	var out []api.Rule
	for i := 0; i < len(l); i += 2 {
		out = append(out, api.Rule{Cat: l[i].(int), Text: l[i+1].(string)})
	}
	return out
}

// slavic are a language's rules, the hardest ones that are common.
var slavic = rules(api.One, "v = 0 and i % 10 = 1 and i % 100 != 11", api.Few, "v = 0 and i % 10 = 2..4 and i % 100 != 12..14", api.Many, "v = 0 and i % 10 = 0 or v = 0 and i % 10 = 5..9 or v = 0 and i % 100 = 11..14")

// arabic has all of the categories.
var arabic = rules(api.Zero, "n = 0", api.One, "n = 1", api.Two, "n = 2", api.Few, "n % 100 = 3..10", api.Many, "n % 100 = 11..99")

// P12.1, P12.4: what is read is right.
func TestRead(t *testing.T) {
	for _, l := range [][]api.Rule{nil, {}, slavic, arabic, rules(api.One, "n=1"), rules(api.Many, " i = 1 "), rules(api.Zero, "n = 1", api.Many, "n = 1")} {
		r, at, e := plur.Read(l)
		if e != api.OK || at != 0 || len(r) != len(l) || !plur.Right(r) {
			t.Error(l, r, at, e)
		}
		for i, x := range r {
			c, _, _ := rule.Parse(l[i].Text)
			if x.Cat != l[i].Cat || !rule.Same(x.C, c) {
				t.Error(l, i, x)
			}
		}
	}
}

// P12.1: the first rule that is wrong, and why.
func TestReadFaults(t *testing.T) {
	long := strings.Repeat("n%123456789=123456789or ", 15) + "n=1"
	for i, x := range []struct {
		l  []api.Rule
		at int
		e  api.Errno
	}{
		{rules(api.Other, "n = 1"), 0, api.ErrArg}, {rules(6, "n = 1"), 0, api.ErrArg}, {rules(-1, "n = 1"), 0, api.ErrArg}, {rules(1<<62, "n = 1"), 0, api.ErrArg},
		{rules(api.One, "n = 1", api.One, "n = 2"), 1, api.ErrArg}, {rules(api.Two, "n = 1", api.One, "n = 2"), 1, api.ErrArg}, {rules(api.One, "n = 1", api.Two, "n = 2", api.Other, "n = 3"), 2, api.ErrArg},
		{rules(api.One, "n = 1", 6, "n = 2"), 1, api.ErrArg}, {rules(api.Many, "n = 1", 7, "x"), 1, api.ErrArg}, {rules(api.Other, "x"), 0, api.ErrArg},
		{rules(api.One, ""), 0, api.ErrForm}, {rules(api.One, "x = 1"), 0, api.ErrForm}, {rules(api.One, "n = 1", api.Two, "n = 2 and"), 1, api.ErrForm},
		{rules(api.One, strings.Repeat(" ", 401)), 0, api.ErrForm}, {rules(api.One, "n = 1"+strings.Repeat(",1", 20)), 0, api.ErrForm}, {rules(api.One, "n = 1", api.Few, long), 1, api.ErrForm},
		{rules(api.One, "x", api.One, "n = 1"), 0, api.ErrForm}, {rules(api.One, "n = 1", api.Few, "x", 0, "n = 1"), 1, api.ErrForm},
	} {
		if r, at, e := plur.Read(x.l); e != x.e || at != x.at || len(r) != 0 {
			t.Error(i, r, at, e)
		}
	}
}

func cond(t *testing.T, s string) api.Cond {
	t.Helper()
	c, _, e := rule.Parse(s)
	if e != api.OK {
		t.Fatal(s)
	}
	return c
}

// P12.1: which are right.
func TestRight(t *testing.T) {
	c := cond(t, "n = 1")
	long := cond(t, strings.Repeat("n%123456789=123456789or ", 15)+"n=1")
	for i, x := range []struct {
		l     []api.Ruled
		right bool
	}{
		{nil, true}, {[]api.Ruled{{Cat: 1, C: c}}, true}, {[]api.Ruled{{Cat: 1, C: c}, {Cat: 5, C: c}}, true},
		{[]api.Ruled{{Cat: 1, C: c}, {Cat: 2, C: c}, {Cat: 3, C: c}, {Cat: 4, C: c}, {Cat: 5, C: c}}, true},
		{[]api.Ruled{{Cat: 0, C: c}}, false}, {[]api.Ruled{{Cat: 6, C: c}}, false}, {[]api.Ruled{{Cat: -1, C: c}}, false}, {[]api.Ruled{{Cat: 2, C: c}, {Cat: 2, C: c}}, false},
		{[]api.Ruled{{Cat: 2, C: c}, {Cat: 1, C: c}}, false}, {[]api.Ruled{{Cat: 1}}, false}, {[]api.Ruled{{Cat: 1, C: api.Cond{{}}}}, false}, {[]api.Ruled{{Cat: 1, C: c}, {Cat: 2, C: api.Cond{{{Op: 'x'}}}}}, false},
		{[]api.Ruled{{Cat: 1, C: long}}, false},
	} {
		if plur.Right(x.l) != x.right {
			t.Error(i, x)
		}
	}
}

// P12.1: all of two is held against each other.
func TestSame(t *testing.T) {
	c, d := cond(t, "n = 1"), cond(t, "n = 2")
	l := [][]api.Ruled{nil, {{Cat: 1, C: c}}, {{Cat: 2, C: c}}, {{Cat: 1, C: d}}, {{Cat: 1, C: c}, {Cat: 2, C: d}}, {{Cat: 2, C: d}, {Cat: 1, C: c}}, {{Cat: 1}}}
	for i, a := range l {
		for j, b := range l {
			if plur.Same(a, b) != (i == j) {
				t.Error(a, b)
			}
		}
	}
	if !plur.Same(nil, []api.Ruled{}) || !plur.Same([]api.Ruled{{Cat: 1, C: cond(t, "n=1")}}, l[1]) {
		t.Error("the same aren't")
	}
}

// P12.2: each number's category.
func TestOf(t *testing.T) {
	for _, x := range []struct {
		l    []api.Rule
		want string // numbers of each category, from other on, with ; between
	}{
		{nil, "0 1 1.5 100"},
		{rules(api.One, "n = 1"), "2 0 1.5 11;;1 1.0"},
		{rules(api.One, "n = 1", api.Two, "n = 1..2", api.Many, "n = 0..9"), "10 1.5;;1;2;;0 3 9"},
		{slavic, "1.5 0.0 1.0;;1 21 101;;2 3 4 22 104;0 5 11 12 14 100 111 19"},
		{arabic, "100 101 102 1.5 200 202;0 0.0;1 1.0;2;3 10 103 110;11 99 111 199"},
	} {
		r, _, e := plur.Read(x.l)
		if e != api.OK {
			t.Fatal(x.l)
		}
		for cat, numbers := range strings.Split(x.want, ";") {
			for _, n := range strings.Fields(numbers) {
				if got := plur.Of(r, of(n)); got != cat {
					t.Error(n, got, cat)
				}
			}
		}
	}
	r, _, _ := plur.Read(rules(api.Two, "e = 6", api.Many, "c != 0"))
	if plur.Of(r, api.Oper{C: 6}) != api.Two || plur.Of(r, api.Oper{C: 3}) != api.Many || plur.Of(r, api.Oper{}) != api.Other {
		t.Error("powers")
	}
}

// of is the Oper of a number as it is written.
func of(s string) api.Oper {
	whole, part, _ := strings.Cut(s, ".")
	row := func(s string) []byte {
		out := []byte(s)
		for i := range out {
			out[i] -= '0'
		}
		return out
	}
	o, _ := oper.Of(row(whole), row(part), 0)
	return o
}

// P12.3, P12.4: names, and back.
func TestNames(t *testing.T) {
	for cat, name := range []string{"other", "zero", "one", "two", "few", "many"} {
		if plur.Name(cat) != name {
			t.Error(cat, plur.Name(cat))
		}
		if got, ok := plur.Cat(name); got != cat || !ok {
			t.Error(name, got, ok)
		}
	}
	for _, cat := range []int{-1, 6, 7, 1 << 62, -1 << 63} {
		if plur.Name(cat) != "" {
			t.Error(cat)
		}
	}
	for _, name := range []string{"", "Other", "ONE", "on", "ones", " one", "three", "many\x00"} {
		if got, ok := plur.Cat(name); got != 0 || ok {
			t.Error(name, got, ok)
		}
	}
}
