package tank_test

import (
	"slices"
	"testing"

	"exergue/api"
	"exergue/tank"
)

const most = 1<<63 - 1

func isTank(t api.Tank, fuel, room int, out string) bool {
	return t.Fuel == fuel && t.Room == room && string(t.Out) == out
}

// P4.1: a tank of fuel and room.
func TestNew(t *testing.T) {
	for _, x := range [][2]int{{0, 0}, {5, 2}, {0, 7}, {7, 0}, {most, most}} {
		if got, e := tank.New(x[0], x[1]); e != api.OK || !isTank(got, x[0], x[1], "") {
			t.Error(x, got, e)
		}
	}
	for _, x := range [][2]int{{-1, 0}, {0, -1}, {-1, -1}, {5, -most}, {-most - 1, 5}} {
		if got, e := tank.New(x[0], x[1]); e != api.ErrArg || !isTank(got, 0, 0, "") {
			t.Error(x, got, e)
		}
	}
}

// P4.1: all of two is held against each other.
func TestSame(t *testing.T) {
	a := api.Tank{Fuel: 3, Room: 4, Out: []rune("ab")}
	if !tank.Same(a, api.Tank{Fuel: 3, Room: 4, Out: []rune("ab")}) || !tank.Same(api.Tank{}, api.Tank{Out: []rune{}}) {
		t.Error("the same aren't")
	}
	for _, b := range []api.Tank{
		{Fuel: 2, Room: 4, Out: []rune("ab")}, {Fuel: 3, Room: 5, Out: []rune("ab")}, {Fuel: 3, Room: 4},
		{Fuel: 3, Room: 4, Out: []rune("abc")}, {Fuel: 3, Room: 4, Out: []rune("ba")}, {Fuel: 4, Room: 3, Out: []rune("ab")},
	} {
		if tank.Same(a, b) || tank.Same(b, a) {
			t.Error(b)
		}
	}
}

// P4.2: fuel is burnt.
func TestBurn(t *testing.T) {
	a := api.Tank{Fuel: 5, Room: 1, Out: []rune("x")}
	for _, x := range []struct {
		n, fuel int
		e       api.Errno
	}{{0, 5, api.OK}, {1, 4, api.OK}, {5, 0, api.OK}, {6, 0, api.ErrFuel}, {most, 0, api.ErrFuel}, {-1, 5, api.ErrArg}, {-most - 1, 5, api.ErrArg}} {
		if got, e := tank.Burn(a, x.n); e != x.e || !isTank(got, x.fuel, 1, "x") {
			t.Error(x, got, e)
		}
	}
	if got, e := tank.Burn(api.Tank{}, 0); e != api.OK || !isTank(got, 0, 0, "") {
		t.Error(got, e)
	}
}

// P4.2: runes are put out, as long as there is fuel, then room.
func TestPut(t *testing.T) {
	for _, x := range []struct {
		fuel, room       int
		l                string
		fuelLeft, roomIn int
		out              string
		e                api.Errno
	}{
		{5, 2, "abc", 2, 0, "ab", api.ErrRoom},
		{5, 3, "abc", 2, 0, "abc", api.OK},
		{3, 5, "abc", 0, 2, "abc", api.OK},
		{2, 5, "abc", 0, 3, "ab", api.ErrFuel},
		{2, 2, "abc", 0, 0, "ab", api.ErrFuel},
		{3, 2, "abc", 0, 0, "ab", api.ErrRoom},
		{0, 0, "a", 0, 0, "", api.ErrFuel},
		{1, 0, "a", 0, 0, "", api.ErrRoom},
		{9, 0, "ab", 8, 0, "", api.ErrRoom},
		{0, 0, "", 0, 0, "", api.OK},
		{4, 4, "", 4, 4, "", api.OK},
	} {
		a, _ := tank.New(x.fuel, x.room)
		if got, e := tank.Put(a, []rune(x.l)...); e != x.e || !isTank(got, x.fuelLeft, x.roomIn, x.out) {
			t.Error(x, got, e)
		}
		a.Out = []rune("é")
		if got, e := tank.Put(a, []rune(x.l)...); e != x.e || !isTank(got, x.fuelLeft, x.roomIn, "é"+x.out) {
			t.Error(x, got, e)
		}
	}
	if got, e := tank.Put(api.Tank{Fuel: 3, Room: 3}, -1, 0xD800, 0); e != api.OK || !slices.Equal(got.Out, []rune{-1, 0xD800, 0}) {
		t.Error(got, e)
	}
}

// P4.3: of a row in two parts it is what it is at once.
func TestParts(t *testing.T) {
	row := []rune("abcdef")
	for fuel := range 9 {
		for room := range 9 {
			for cut := range len(row) + 1 {
				a, _ := tank.New(fuel, room)
				whole, we := tank.Put(a, row...)
				part, pe := tank.Put(a, row[:cut]...)
				if pe == api.OK {
					part, pe = tank.Put(part, row[cut:]...)
				}
				if we != pe || !tank.Same(whole, part) {
					t.Error(fuel, room, cut, whole, part)
				}
				n := len(whole.Out)
				if !slices.Equal(whole.Out, row[:n]) || we == api.OK && (n != 6 || whole.Fuel != fuel-6 || whole.Room != room-6) {
					t.Error(fuel, room, whole)
				}
			}
		}
	}
}

// R3: two tanks of one don't see what is put into the other.
func TestApart(t *testing.T) {
	a := api.Tank{Fuel: 9, Room: 9, Out: append(make([]rune, 0, 50), 'x')}
	b, _ := tank.Put(a, 'b')
	c, _ := tank.Put(a, 'c')
	d, _ := tank.Burn(a, 1)
	d, _ = tank.Put(d, 'd')
	if string(a.Out) != "x" || string(b.Out) != "xb" || string(c.Out) != "xc" || string(d.Out) != "xd" {
		t.Error(a, b, c, d)
	}
}
