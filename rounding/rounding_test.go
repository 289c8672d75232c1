package rounding_test

import (
	"math"
	"math/big"
	"math/rand/v2"
	"slices"
	"testing"

	"kingpost/api"
	"kingpost/rounding"
	"kingpost/surd"
)

// The results are compared with those of reference_test.go, and with each
// other as the promises say.

// rounded is what the four functions return that round.
func rounded(s api.Surd, unit api.Num) outcome {
	var o outcome
	o.down, o.errors[0] = rounding.Down(s, unit)
	o.up, o.errors[1] = rounding.Up(s, unit)
	o.near, o.errors[2] = rounding.Near(s, unit)
	o.steps, o.errors[3] = rounding.Steps(s, unit)
	return o
}

// same compares what the functions return with what they should return.
func same(t *testing.T, s api.Surd, unit api.Num) outcome {
	t.Helper()
	o, want := rounded(s, unit), expected(s, unit)
	if o != want {
		t.Errorf("%v in units of %s: %v, not %v", s, unit, o, want)
	}
	return o
}

// all are the errors of four functions that return the same one.
func all(e api.Errno) [4]api.Errno { return [4]api.Errno{e, e, e, e} }

// primes returns the surd of the roots of the first n primes, all with a Coef.
func primes(n int, coef api.Num) api.Surd {
	var s api.Surd
	for p := int64(2); len(s) < n; p++ {
		if big.NewInt(p).ProbablyPrime(0) {
			s = append(s, api.Term{Coef: coef, Root: integer(p)})
		}
	}
	return s
}

// tiny are short surds of about -10^-39, -10^-57 and 10^-77: what their terms
// are has been found by reducing a lattice.
func tiny() [3]api.Surd {
	return [3]api.Surd{
		of("-1706895289973353643", "2", "1637850936797362025", "3", "-189138511611407106", "5"),
		of("3007329230965260819", "2", "-1902232207901087025", "3", "-440531139969805549", "5", "10134974512647858", "7"),
		of("3060261575948249926", "2", "-2603012974316591580", "3", "3000829509526863640", "5", "3901928355980686323", "7", "-5081341605342542840", "11"),
	}
}

func TestP6_1Rounding(t *testing.T) {
	long := num(nines(60))
	for _, x := range []struct {
		s              api.Surd
		unit           api.Num
		down, up, near api.Num
		steps          int
	}{
		// the empty surd, with units of all lengths
		{nil, "1", "0", "0", "0", 0}, {api.Surd{}, "1/3", "0", "0", "0", 0}, {nil, num(nines(300)), "0", "0", "0", 0}, {nil, num("1/", nines(300)), "0", "0", "0", 0},
		// 1.41421.., with units below and above it
		{of("1", "2"), "1/10", "7/5", "3/2", "7/5", 15}, {of("1", "2"), "1/1000", "707/500", "283/200", "707/500", 1415}, {of("1", "2"), "1", "1", "2", "1", 2}, {of("1", "2"), "2/3", "4/3", "2", "4/3", 3}, {of("1", "2"), "3/4", "3/4", "3/2", "3/2", 2}, {of("1", "2"), "17/12", "0", "17/12", "17/12", 1}, {of("1", "2"), "2", "0", "2", "2", 1}, {of("1", "2"), "3", "0", "3", "0", 1}, {of("1", "2"), "100", "0", "100", "0", 1},
		{of("-1", "2"), "1/10", "-3/2", "-7/5", "-7/5", -14}, {of("-1", "2"), "1", "-2", "-1", "-1", -1}, {of("-1", "2"), "2/3", "-2", "-4/3", "-4/3", -2}, {of("-1", "2"), "2", "-2", "0", "-2", 0}, {of("-1", "2"), "3", "-3", "0", "0", 0}, {of("-1", "2"), "100", "-100", "0", "0", 0},
		{of("1", "3"), "1", "1", "2", "2", 2}, {of("1", "2", "1", "3"), "1/100", "157/50", "63/20", "63/20", 315}, {of("1", "2", "1", "3", "-1", "10"), "1", "-1", "0", "0", 0}, {of("1", "20402"), "1", "142", "143", "143", 143}, {of("100", "2"), "1/100", "7071/50", "14143/100", "7071/50", 14143},
		// multiples, and what is none
		{of("6", "1"), "2", "6", "6", "6", 3}, {of("-6", "1"), "2", "-6", "-6", "-6", -3}, {of("7/3", "1"), "1/3", "7/3", "7/3", "7/3", 7}, {of("7/3", "1"), "7/3", "7/3", "7/3", "7/3", 1}, {of("7/3", "1"), "2/3", "2", "8/3", "8/3", 4}, {of("-7/3", "1"), "1/6", "-7/3", "-7/3", "-7/3", -14}, {of("1", "1"), "1", "1", "1", "1", 1}, {of("-1", "1"), "1", "-1", "-1", "-1", -1}, {of("7", "1"), "4", "4", "8", "8", 2}, {of("5", "1"), "4", "4", "8", "4", 2}, {of("1/3", "1"), "1/2", "0", "1/2", "1/2", 1}, {of("-1/3", "1"), "1/2", "-1/2", "0", "-1/2", 0},
		// between -1 and 0
		{of("-1/3", "1"), "1", "-1", "0", "0", 0}, {of("-2/3", "1"), "1", "-1", "0", "-1", 0}, {of("1", "1", "-1", "2"), "1", "-1", "0", "0", 0}, {of("-2", "1", "1", "2"), "1", "-1", "0", "-1", 0}, {tiny()[0], "1", "-1", "0", "0", 0}, {of(num("-1/", nines(19)), "1"), "1", "-1", "0", "0", 0},
		// half of a unit away from two multiples, and a bit less or more
		{of("1/2", "1"), "1", "0", "1", "1", 1}, {of("-1/2", "1"), "1", "-1", "0", "0", 0}, {of("3/2", "1"), "1", "1", "2", "2", 2}, {of("-3/2", "1"), "1", "-2", "-1", "-1", -1}, {of("5/2", "1"), "1", "2", "3", "3", 3}, {of("-5/2", "1"), "1", "-3", "-2", "-2", -2}, {of("1/6", "1"), "1/3", "0", "1/3", "1/3", 1}, {of("-1/6", "1"), "1/3", "-1/3", "0", "0", 0}, {of("9/2", "1"), "3", "3", "6", "6", 2}, {of("-9/2", "1"), "3", "-6", "-3", "-3", -1}, {of("3/2", "1"), "3", "0", "3", "3", 1}, {of("-3/2", "1"), "3", "-3", "0", "0", 0},
		{of("199/2", "1", "-70", "2"), "1", "0", "1", "1", 1}, {of("-197/2", "1", "70", "2"), "1", "0", "1", "0", 1}, {of("-199/2", "1", "70", "2"), "1", "-1", "0", "-1", 0}, {moved(tiny()[0], "1/2"), "1", "0", "1", "0", 1}, {moved(scaled(tiny()[0], "-1"), "1/2"), "1", "0", "1", "1", 1}, {moved(tiny()[0], "-1/2"), "1", "-1", "0", "-1", 0}, {moved(scaled(tiny()[0], "-1"), "-1/2"), "1", "-1", "0", "0", 0},
		// the surd has 60 digits, and the unit some more
		{of(long, "1"), long, long, long, long, 1}, {of(long, "1"), product(long, "7"), "0", product(long, "7"), "0", 1}, {of("1/"+long, "1"), "2/" + long, "0", "2/" + long, "2/" + long, 1}, {of(long, "2"), long, long, product(long, "2"), long, 2}, {of("-"+long, "1"), product(long, num(tenTo(19))), "-" + product(long, num(tenTo(19))), "0", "0", 0},
	} {
		want := outcome{down: x.down, up: x.up, near: x.near, steps: x.steps}
		if o := same(t, x.s, x.unit); o != want {
			t.Errorf("%v in units of %s: %v, not %v", x.s, x.unit, o, want)
		}
	}
}

// badSurds are no surds.
func badSurds() []api.Surd {
	return []api.Surd{of("0", "1"), of("1", "4"), of("", "1"), of("1", "x"), of("2/4", "1"), of("1", "-2"), of("1", "0"), of("1", "1/2"), of("1", "3", "1", "2"), of("1", "2", "1", "2"), of("1", "2", "1", "20402"), make(api.Surd, 17), of(num(nines(61)), "1"), of("1", num(sevens(41)))}
}

// badNumbers are no numbers.
func badNumbers() []api.Num {
	return []api.Num{"", "x", "-0", "01", "+1", "1.5", "1/1", "2/4", "-2/4", "1/0", "1/", "/2", "1/-2", " 1", "1 ", num(nines(301)), num("-", nines(301)), num("1/", nines(301))}
}

func TestP6_1Errors(t *testing.T) {
	good := []api.Surd{nil, of("1", "2"), of("-5/2", "1"), primes(16, "1"), of(num(nines(60)), "1"), tiny()[2]}
	units := []api.Num{"1", "2/3", num(nines(300)), num("1/", nines(300))}
	notPositive := []api.Num{"0", "-1", "-1/2", num("-", nines(300)), num("-1/", nines(300))}
	for _, x := range []struct {
		surds []api.Surd
		units []api.Num
		want  api.Errno
	}{
		{badSurds(), slices.Concat(units, notPositive, badNumbers()), api.ErrArgument},
		{good, badNumbers(), api.ErrArgument},
		{good, notPositive, api.ErrRange},
	} {
		for _, s := range x.surds {
			for _, unit := range x.units {
				if o := same(t, s, unit); o != (outcome{errors: all(x.want)}) {
					t.Errorf("%v in units of %s: %v, not %d", s, unit, o, x.want)
				}
			}
		}
	}
}

func TestP6_1Limits(t *testing.T) {
	onlyNear := [4]api.Errno{api.ErrLimit, api.ErrLimit, api.OK, api.ErrLimit}
	allButNear := [4]api.Errno{api.OK, api.OK, api.ErrLimit, api.OK}
	onlyMultiples := [4]api.Errno{api.OK, api.OK, api.OK, api.ErrRange}
	for _, x := range []struct {
		s    api.Surd
		unit api.Num
		want [4]api.Errno
	}{
		// products of layer 2
		{of("1/7", "1"), num(nines(300)), all(api.ErrLimit)}, {of("7", "2"), num("1/", nines(300)), all(api.ErrLimit)}, {of("1", "2", num("-", nines(60)), "3"), num("1/", nines(241)), all(api.ErrLimit)},
		// surds of layer 4: 60 digits, and 16 terms
		{of("1", "2"), num(tenTo(60)), all(api.ErrLimit)}, {of(num("-", nines(60)), "1"), "1/2", all(api.ErrLimit)}, {of("1", "2", num(tenTo(59)), "3"), "1/10", all(api.ErrLimit)}, {of("1", "2"), num(nines(300)), all(api.ErrLimit)}, {of("1/3", "1"), num("1/", nines(60), "8"), all(api.ErrLimit)}, {primes(16, "1"), "1", all(api.ErrLimit)}, {primes(16, "1"), "1000", all(api.ErrLimit)}, {primes(15, "1"), "1", all(api.OK)}, {primes(15, "-1"), "1/3", all(api.OK)},
		// short surds of layer 5
		{of(num(nines(19), "0"), "1"), "30", all(api.OK)}, {of(num(tenTo(20)), "1"), "10", onlyMultiples}, {of(num(tenTo(20)), "1"), "1", all(api.ErrLimit)}, {of(num("-", tenTo(20)), "2"), "1", all(api.ErrLimit)}, {of(num("1/", tenTo(20)), "2"), "1", all(api.ErrLimit)}, {of(num("1/", tenTo(20)), "2"), num("1/", tenTo(20)), all(api.OK)}, {of("1", "2"), num(nines(20)), all(api.OK)}, {of("1", "2"), num(nines(21)), all(api.ErrLimit)}, {of("1", "2"), num("1/", nines(20)), onlyMultiples}, {of("1", "2"), num("1/", nines(21)), all(api.ErrLimit)}, {of("1", "2", num(nines(21)), "3"), "1", all(api.ErrLimit)},
		// what is short may no longer be so with 1/2 more, and the other way round
		{of(num(nines(20)), "1"), "1", [4]api.Errno{api.OK, api.OK, api.ErrLimit, api.ErrRange}}, {of(num("1/", nines(20)), "1", "1", "2"), "1", allButNear}, {of(num("-1", nines(20), "/2"), "1"), "1", onlyNear}, {of(num(nines(20)), "2"), "1", onlyMultiples},
		// too near to an integer, and with 1/2 more
		{tiny()[0], "1", all(api.OK)}, {tiny()[1], "1", all(api.OK)}, {tiny()[2], "1", onlyNear}, {scaled(tiny()[2], "-1"), "1", onlyNear}, {tiny()[2], "3", onlyNear}, {scaled(tiny()[2], "5"), "5", onlyNear}, {scaled(tiny()[2], num(tenTo(15))), num(tenTo(15)), onlyNear}, {moved(tiny()[2], "7"), "1", onlyNear}, {moved(tiny()[2], "1/2"), "1", allButNear}, {moved(tiny()[2], "-7/2"), "1", allButNear}, {moved(tiny()[2], "1/2"), "1/2", onlyNear}, {moved(tiny()[2], "1/4"), "1", all(api.OK)}, {moved(tiny()[2], "1/4"), "1/2", allButNear},
	} {
		if o := same(t, x.s, x.unit); o.errors != x.want {
			t.Errorf("%v in units of %s: %v, not %v", x.s, x.unit, o, x.want)
		}
	}
}

// root returns the surd of the root of n, times c.
func root(c api.Num, n *big.Rat) api.Surd { return made(surd.Make(of(c, text(n)))) }

func TestP6_1Steps(t *testing.T) {
	const most = 1 << 62
	end, beyond := integer(most), sum(integer(most), "1")
	square := times(parse(end), parse(end))
	squareBeyond := times(parse(beyond), parse(beyond))
	for _, x := range []struct {
		s    api.Surd
		unit api.Num
		want int
		e    api.Errno
	}{
		{of(end, "1"), "1", most, api.OK}, {of(beyond, "1"), "1", 0, api.ErrRange}, {of(sum(end, "1/2"), "1"), "1", 0, api.ErrRange}, {of(sum(end, "-1/2"), "1"), "1", most, api.OK}, {of(sum(end, "-1"), "1"), "1", most - 1, api.OK},
		{of("-"+end, "1"), "1", -most, api.OK}, {of("-"+beyond, "1"), "1", 0, api.ErrRange}, {of("-"+sum(end, "1/2"), "1"), "1", -most, api.OK}, {of("-"+sum(beyond, "1/2"), "1"), "1", 0, api.ErrRange}, {of("-"+sum(end, "-1"), "1"), "1", 1 - most, api.OK},
		{root("1", square), "1", most, api.OK}, {root("1", plus(square, whole(1))), "1", 0, api.ErrRange}, {root("1", minus(square, whole(1))), "1", most, api.OK}, {root("-1", plus(square, whole(1))), "1", -most, api.OK}, {root("-1", plus(squareBeyond, whole(1))), "1", 0, api.ErrRange}, {root("-1", minus(squareBeyond, whole(1))), "1", -most, api.OK},
		// other units
		{of("1", "1"), "1/" + end, most, api.OK}, {of("1", "1"), "1/" + beyond, 0, api.ErrRange}, {of("-1", "1"), "1/" + end, -most, api.OK}, {of("-1", "1"), "1/" + beyond, 0, api.ErrRange}, {of(product(end, "3"), "1"), "3", most, api.OK}, {of(product(beyond, "3"), "1"), "3", 0, api.ErrRange}, {of(beyond, "1"), "2", most/2 + 1, api.OK},
		// far beyond, and beyond a limit of the layers below
		{of(num(nines(20)), "1"), "1", 0, api.ErrRange}, {of(num(tenTo(19)), num(sevens(40))), "1", 0, api.ErrRange}, {of(num("-", tenTo(19)), num(sevens(40))), "1", 0, api.ErrRange}, {of(num(tenTo(20)), "1"), "1", 0, api.ErrLimit}, {of(num("-", tenTo(20)), "1"), "1", 0, api.ErrLimit},
	} {
		if o := same(t, x.s, x.unit); o.steps != x.want || o.errors[3] != x.e {
			t.Errorf("%v in units of %s: %v, not %d, %d", x.s, x.unit, o, x.want, x.e)
		}
	}
}

func TestP6_1Error(t *testing.T) {
	most, longer := num(nines(60)), num(tenTo(60))
	for _, x := range []struct {
		s    api.Surd
		r    api.Num
		want api.Surd
		e    api.Errno
	}{
		{of("1", "2"), "7/5", of("-7/5", "1", "1", "2"), api.OK}, {of("-1", "2"), "-1/3", of("1/3", "1", "-1", "2"), api.OK}, {of("5/2", "1"), "2", of("1/2", "1"), api.OK}, {of("5/2", "1"), "3", of("-1/2", "1"), api.OK}, {of("1", "2"), "0", of("1", "2"), api.OK}, {of("3", "1"), "0", of("3", "1"), api.OK}, {nil, "0", nil, api.OK}, {nil, "1", of("-1", "1"), api.OK}, {nil, "-2/3", of("2/3", "1"), api.OK}, {of("1/2", "1", "1", "2"), "1/3", of("1/6", "1", "1", "2"), api.OK},
		// the number is the surd's value, or its rational part
		{of("5/2", "1"), "5/2", nil, api.OK}, {of("-7", "1"), "-7", nil, api.OK}, {of(most, "1"), most, nil, api.OK}, {of("1/2", "1", "1", "2"), "1/2", of("1", "2"), api.OK},
		// limits: 60 digits of the number and of the difference, and 16 terms
		{nil, most, of("-"+most, "1"), api.OK}, {nil, "1/" + most, of("-1/"+most, "1"), api.OK}, {nil, longer, nil, api.ErrLimit}, {of("1", "2"), "-" + longer, nil, api.ErrLimit}, {nil, "1/" + longer, nil, api.ErrLimit}, {of(most, "1"), longer, nil, api.ErrLimit}, {nil, num(nines(300)), nil, api.ErrLimit}, {nil, num("-1/", nines(300)), nil, api.ErrLimit},
		{of(most, "1"), "-1", nil, api.ErrLimit}, {of(most, "1"), "1", of(difference(most, "1"), "1"), api.OK}, {of("1/"+most, "1"), "1/17", nil, api.ErrLimit}, {of("1/"+most, "1"), "2/" + most, of("-1/"+most, "1"), api.OK},
		{primes(16, "1"), "0", primes(16, "1"), api.OK}, {primes(16, "1"), "1", nil, api.ErrLimit}, {primes(15, "1"), "1", moved(primes(15, "1"), "-1"), api.OK}, {moved(primes(15, "1"), "1"), "1", primes(15, "1"), api.OK},
	} {
		if l, e := rounding.Error(x.s, x.r); !slices.Equal(l, x.want) || e != x.e {
			t.Errorf("Error(%v, %s): %v, %d, not %v, %d", x.s, x.r, l, e, x.want, x.e)
		}
	}
	for _, s := range badSurds() {
		for _, r := range append(badNumbers(), "0", "1/2", num(nines(300))) {
			if l, e := rounding.Error(s, r); len(l) != 0 || e != api.ErrArgument {
				t.Errorf("Error(%v, %s): %v, %d", s, r, l, e)
			}
		}
	}
	for _, r := range badNumbers() {
		for _, s := range []api.Surd{nil, of("1", "2"), primes(16, "1")} {
			if l, e := rounding.Error(s, r); len(l) != 0 || e != api.ErrArgument {
				t.Errorf("Error(%v, %s): %v, %d", s, r, l, e)
			}
		}
	}
}

// sameWithin compares the result of Within with what it should be.
func sameWithin(t *testing.T, s api.Surd, r, e api.Num) (bool, api.Errno) {
	t.Helper()
	is, f := rounding.Within(s, r, e)
	if want, g := isWithin(s, r, e); is != want || f != g {
		t.Errorf("Within(%v, %s, %s): %v, %d, not %v, %d", s, r, e, is, f, want, g)
	}
	return is, f
}

func TestP6_1Within(t *testing.T) {
	for _, x := range []struct {
		s    api.Surd
		r, e api.Num
		want bool
	}{
		// 1.41421..
		{of("1", "2"), "7/5", "1/50", true}, {of("1", "2"), "7/5", "1/100", false}, {of("1", "2"), "3/2", "1/10", true}, {of("1", "2"), "3/2", "1/20", false}, {of("-1", "2"), "-7/5", "1/50", true}, {of("-1", "2"), "-7/5", "1/100", false}, {of("-1", "2"), "-3/2", "1/10", true}, {of("-1", "2"), "-3/2", "1/20", false}, {of("1", "2"), "0", "3/2", true}, {of("-1", "2"), "0", "3/2", true}, {of("1", "2"), "0", "1", false}, {of("-1", "2"), "1", "5/2", true}, {of("-1", "2"), "1", "2", false}, {of("1", "2"), "-1", "2", false},
		// the ends are within, too
		{of("5/2", "1"), "2", "1/2", true}, {of("5/2", "1"), "3", "1/2", true}, {of("5/2", "1"), "2", "1/3", false}, {of("5/2", "1"), "3", "1/3", false}, {of("-5/2", "1"), "-2", "1/2", true}, {of("-5/2", "1"), "-3", "1/2", true}, {of("-5/2", "1"), "-3", "1/3", false}, {of("3", "1"), "0", "3", true}, {of("-3", "1"), "0", "3", true}, {nil, "1", "1", true}, {nil, "-1", "1", true}, {nil, "1", "1/2", false}, {nil, "-1", "1/2", false},
		// the number is the surd's value, or not; e is 0
		{of("5/2", "1"), "5/2", "0", true}, {of("5/2", "1"), "5/2", "1", true}, {nil, "0", "0", true}, {nil, "0", "1", true}, {of("5/2", "1"), "2", "0", false}, {of("5/2", "1"), "3", "0", false}, {of("3", "1"), "0", "0", false}, {of("1", "2"), "7/5", "0", false}, {of("1", "2"), "3/2", "0", false}, {of("1", "2"), "0", "0", false}, {tiny()[0], "0", "0", false}, {primes(16, "1"), "0", "0", false},
		{tiny()[0], "0", num("1/", tenTo(38)), true}, {tiny()[0], "0", num("1/", tenTo(40)), false},
	} {
		if is, e := sameWithin(t, x.s, x.r, x.e); is != x.want || e != api.OK {
			t.Errorf("Within(%v, %s, %s): %v, %d", x.s, x.r, x.e, is, e)
		}
	}
}

func TestP6_1WithinErrors(t *testing.T) {
	good := []api.Surd{nil, of("1", "2"), primes(16, "1")}
	numbers := []api.Num{"0", "1", "-1", num(nines(300))}
	negative := []api.Num{"-1", "-1/2", num("-", nines(300)), num("-1/", nines(300))}
	for _, x := range []struct {
		surds  []api.Surd
		rs, es []api.Num
		want   api.Errno
	}{
		{badSurds(), append(badNumbers(), numbers...), []api.Num{"x", "0", "1", "-1"}, api.ErrArgument},
		{good, badNumbers(), append(badNumbers(), numbers...), api.ErrArgument},
		{good, numbers, badNumbers(), api.ErrArgument},
		// also for the surd's value, and with numbers that are too long
		{append(good, of("1", "1")), append(numbers, num("1/", nines(300))), negative, api.ErrRange},
	} {
		for _, s := range x.surds {
			for _, r := range x.rs {
				for _, e := range x.es {
					if is, f := sameWithin(t, s, r, e); is || f != x.want {
						t.Errorf("Within(%v, %s, %s): %v, %d", s, r, e, is, f)
					}
				}
			}
		}
	}
}

func TestP6_1WithinLimits(t *testing.T) {
	most, longer, longest := num(nines(60)), num(tenTo(60)), num(nines(300))
	// inverses of short numbers, whose middle, and half of whose distance, are long
	low, high := num("1/", tenTo(59)), num("2/", nines(59))
	middle, distance := quotient(sum(low, high), "2"), quotient(difference(high, low), "2")
	for _, x := range []struct {
		s    api.Surd
		r, e api.Num
		want bool
		f    api.Errno
	}{
		// sums and differences of layer 2
		{nil, longest, "1", false, api.ErrLimit}, {nil, "-" + longest, "1", false, api.ErrLimit}, {nil, num("1/", nines(151)), num("1/", nines(150)), false, api.ErrLimit},
		// surds of layer 4: one end, or both, of 61 digits, also where the other one decides
		{nil, most, "0", false, api.OK}, {of("1", "2"), "0", most, true, api.OK}, {nil, longer, "0", false, api.ErrLimit}, {nil, "1/" + longer, "0", false, api.ErrLimit}, {nil, "0", longer, false, api.ErrLimit}, {of("1", "2"), most, "1", false, api.ErrLimit}, {of("-1", "2"), "-" + most, "1", false, api.ErrLimit}, {of("1", "2"), longer, longer, false, api.ErrLimit}, {of("-1", "2"), longer, longer, false, api.ErrLimit}, {of("1", "2"), "-" + longer, longer, false, api.ErrLimit}, {nil, longest, "0", false, api.ErrLimit},
		{of(low, "2"), middle, distance, true, api.OK}, {of("3/"+num(tenTo(59)), "2"), middle, distance, false, api.OK}, {of("-"+low, "2"), middle, distance, false, api.OK}, {nil, middle, distance, false, api.OK}, {of(low, "2"), middle, "0", false, api.ErrLimit},
		// comparisons of layer 4 with one end, also where the other one decides: 17 terms, and differences of 61 digits
		{primes(15, "1"), "65", "1", true, api.OK}, {primes(15, "1"), "1", "1", false, api.OK}, {primes(16, "1"), "1", "0", false, api.ErrLimit}, {primes(16, "1"), "0", "99", false, api.ErrLimit}, {primes(16, "1"), "99", "99", false, api.ErrLimit}, {primes(16, "-1"), "99", "99", false, api.ErrLimit}, {primes(16, "1"), "-99", "99", false, api.ErrLimit}, {primes(16, "-1"), "-99", "99", false, api.ErrLimit},
		{of(most, "1"), "0", "0", false, api.OK}, {of(most, "1"), "-1", "0", false, api.ErrLimit}, {of(most, "1"), "-1", "1", false, api.ErrLimit}, {of(most, "1"), "1", "1", false, api.OK}, {of(most, "1"), "0", "1", false, api.ErrLimit}, {of("-"+most, "1"), "0", "1", false, api.ErrLimit}, {of("-"+most, "1"), "1", "1", false, api.ErrLimit}, {of("-"+most, "1"), "-1", "1", false, api.OK},
		// signs that layer 4 does not decide
		{tiny()[1], "0", "0", false, api.OK}, {tiny()[2], "0", "0", false, api.ErrLimit}, {tiny()[2], "1", "0", false, api.OK}, {tiny()[2], "1", "1", false, api.ErrLimit}, {tiny()[2], "-1", "1", false, api.ErrLimit}, {moved(tiny()[2], "1/3"), "1/3", "0", false, api.ErrLimit}, {moved(tiny()[2], "1/3"), "1/3", "1", true, api.OK}, {moved(tiny()[2], "-1"), "1", "1", false, api.OK}, {moved(tiny()[2], "-1"), "1", "2", false, api.ErrLimit}, {moved(tiny()[2], "3"), "1", "2", false, api.ErrLimit},
	} {
		if is, f := sameWithin(t, x.s, x.r, x.e); is != x.want || f != x.f {
			t.Errorf("Within(%v, %s, %s): %v, %d, not %v, %d", x.s, x.r, x.e, is, f, x.want, x.f)
		}
	}
}

// Comparing the surd with an end is decided where comparing the end with the
// surd is not, and the other way round.
func TestP6_1WithinOrder(t *testing.T) {
	unit := parse(num("1/", tenTo(64)))
	for _, x := range []struct {
		s       api.Surd
		isAbove bool
	}{{of("1", "2"), false}, {of("1", "2"), true}, {of("2/7", "3"), false}, {of("2/7", "3"), true}} {
		low := times(rat(floor(over(value(x.s), unit))), unit)
		if x.isAbove {
			low = plus(low, unit)
		} else {
			low = minus(low, unit)
		}
		end := text(simplest(low, plus(low, unit)))
		is, e := sameWithin(t, x.s, end, "0")
		_, f := surd.Compare(x.s, exact(end))
		_, g := surd.Compare(exact(end), x.s)
		if is || e != f || f == g {
			t.Errorf("Within(%v, %s, 0): %v, %d; %d, and %d the other way round", x.s, end, is, e, f, g)
		}
	}
}

// freeRoots are Roots of which no two have a rational ratio.
func freeRoots() []api.Num {
	return []api.Num{"1", "2", "3", "5", "6", "7", "10", "11", "13", "14", "15", "17", "19", "101", "103", "10403", "214221", "99990001", num(sevens(40)), "1000000000000000000000000000000000000003"}
}

// anyNumber returns a number, not 0, with at most so many digits in its parts.
func anyNumber(r *rand.Rand, most int) api.Num {
	a := parse(num(digits(r, 1+r.IntN(most)), "/", digits(r, 1+r.IntN(most))))
	if r.IntN(3) == 0 {
		a.SetInt(a.Num())
	}
	if r.IntN(2) == 0 {
		a.Neg(a)
	}
	return text(a)
}

// digits returns n digits in which 0 and 9 are frequent.
func digits(r *rand.Rand, n int) string {
	out := []byte{byte('1' + r.IntN(9))}
	for len(out) < n {
		out = append(out, "0099"[r.IntN(4)], byte('0'+r.IntN(10)))
	}
	return string(out[:n])
}

// anySurd returns a surd with at most so many terms, and digits in the parts of
// their Coefs.
func anySurd(r *rand.Rand, terms, most int) api.Surd {
	roots := freeRoots()
	r.Shuffle(len(roots), func(i, k int) { roots[i], roots[k] = roots[k], roots[i] })
	var l []api.Term
	for _, n := range roots[:r.IntN(terms+1)] {
		l = append(l, api.Term{Coef: anyNumber(r, most), Root: n})
	}
	return made(surd.Make(l))
}

// someSurds returns surds of all signs: multiples, halves, and what is near to
// them, among them.
func someSurds() []api.Surd {
	out := []api.Surd{
		nil, of("1", "1"), of("-1", "1"), of("1/2", "1"), of("-1/2", "1"), of("3/2", "1"), of("-3/2", "1"), of("-7/3", "1"), of("1/6", "1"), of("5/12", "1"), of("40", "1"), of("-1/36893488147419103232", "1"), of("1", "2"), of("-1", "2"), of("1", "3"), of("-1", "3"), of("1", "1", "1", "2"), of("1", "1", "-1", "2"), of("-2", "1", "1", "2"), of("-7", "1", "5", "2"), of("-99", "1", "70", "2"), of("-197/2", "1", "70", "2"), of("199/2", "1", "-70", "2"), of("1", "2", "1", "3"), of("1", "2", "1", "3", "-1", "10"), of("1", "10"), of("1", "20402"), primes(15, "-1/3"),
		tiny()[0], scaled(tiny()[0], "-1"), moved(tiny()[0], "1/2"), moved(tiny()[1], "-1/2"), moved(tiny()[1], "7/3"), of("1", num(sevens(40))), of("-1/9", num(sevens(40))),
	}
	r := random(1)
	for i := range 60 {
		out = append(out, anySurd(r, 1+i%6, []int{1, 2, 4, 7}[i%4]))
	}
	return out
}

// someUnits returns units: integers and fractions, small and great ones.
func someUnits() []api.Num {
	return []api.Num{"1", "2", "3", "10", "1000", num(tenTo(9)), "1/2", "1/3", "1/12", "1/1000", num("1/", tenTo(9)), "2/3", "3/2", "17/12", "5/127", "127/5", "355/113"}
}

func TestP6_1Any(t *testing.T) {
	counts := map[api.Errno]int{}
	for _, s := range someSurds() {
		for _, unit := range someUnits() {
			for _, e := range same(t, s, unit).errors {
				counts[e]++
			}
		}
	}
	r := random(2)
	for i := range 1500 {
		s, unit := anySurd(r, 1+i%16, []int{1, 3, 10, 20, 21, 40, 60}[i%7]), anyNumber(r, []int{1, 3, 10, 20, 40, 60, 90, 300}[i%8])
		if i%11 > 0 {
			unit = text(new(big.Rat).Abs(parse(unit)))
		}
		for _, e := range same(t, s, unit).errors {
			counts[e]++
		}
	}
	if counts[api.OK] < 1000 || counts[api.ErrLimit] < 1000 || counts[api.ErrRange] < 100 {
		t.Error(counts)
	}
}

// half of the unit, and its opposite.
func halfOf(unit api.Num) api.Num   { return quotient(unit, "2") }
func opposite(unit api.Num) api.Num { return product(unit, "-1") }

// orderOf compares a surd with a number, exactly.
func orderOf(t *testing.T, s api.Surd, a api.Num) int {
	t.Helper()
	n, e := surd.Compare(s, exact(a))
	if e != api.OK {
		t.Errorf("%v and %s: %d", s, a, e)
	}
	return n
}

// eachRounded calls a function for surds and units that are rounded without an
// error.
func eachRounded(t *testing.T, with func(s api.Surd, unit api.Num, o outcome)) {
	t.Helper()
	count := 0
	for _, s := range someSurds() {
		for _, unit := range someUnits() {
			if o := rounded(s, unit); o.errors == all(api.OK) {
				with(s, unit, o)
				count++
			}
		}
	}
	if count < 1000 {
		t.Error("too few:", count)
	}
}

func TestP6_2Bounds(t *testing.T) {
	eachRounded(t, func(s api.Surd, unit api.Num, o outcome) {
		if orderOf(t, s, o.down) < 0 || orderOf(t, s, sum(o.down, unit)) >= 0 {
			t.Errorf("%v in units of %s is rounded down to %s", s, unit, o.down)
		}
		if orderOf(t, s, o.up) > 0 || orderOf(t, s, difference(o.up, unit)) <= 0 {
			t.Errorf("%v in units of %s is rounded up to %s", s, unit, o.up)
		}
		if o.up != o.down && o.up != sum(o.down, unit) {
			t.Errorf("%v in units of %s: %s and %s", s, unit, o.down, o.up)
		}
		if product(integer(int64(o.steps)), unit) != o.up {
			t.Errorf("%v in units of %s: %d steps, and %s", s, unit, o.steps, o.up)
		}
	})
}

func TestP6_3Nearest(t *testing.T) {
	eachRounded(t, func(s api.Surd, unit api.Num, o outcome) {
		is, e := rounding.Within(s, o.near, halfOf(unit))
		if !is || e != api.OK {
			t.Errorf("%v in units of %s is rounded to %s: %d", s, unit, o.near, e)
		}
		// of two that are as near the greater one is taken
		if orderOf(t, s, sum(o.near, halfOf(unit))) >= 0 {
			t.Errorf("%v in units of %s is rounded to %s", s, unit, o.near)
		}
		x, e := rounding.Error(s, o.near)
		low, f := surd.Compare(x, exact(opposite(halfOf(unit))))
		high, g := surd.Compare(x, exact(halfOf(unit)))
		if low < 0 || high >= 0 || first(e, f, g) != api.OK {
			t.Errorf("%v is %v from %s: %d, %d, %d", s, x, o.near, e, f, g)
		}
		// what is left when the error is taken away is the rounded number
		rest, e := surd.Sub(s, x)
		if a, isRational, f := surd.Value(rest); a != o.near || !isRational || first(e, f) != api.OK {
			t.Errorf("%v less %v is %v, %d, %d", s, x, rest, e, f)
		}
		if o.near != o.down && o.near != o.up {
			t.Errorf("%v in units of %s: %s is none of %s and %s", s, unit, o.near, o.down, o.up)
		}
	})
}

func TestP6_4Multiples(t *testing.T) {
	eachRounded(t, func(s api.Surd, unit api.Num, o outcome) {
		for _, a := range []api.Num{o.down, o.up, o.near} {
			n := over(parse(a), parse(unit))
			if !n.IsInt() {
				t.Errorf("%v is rounded to %s, no multiple of %s", s, a, unit)
				continue
			}
			if n.Num().CmpAbs(big.NewInt(1<<62)) > 0 {
				continue
			}
			again := rounded(exact(a), unit)
			if want := (outcome{down: a, up: a, near: a, steps: int(n.Num().Int64())}); again != want {
				t.Errorf("%s in units of %s: %v, not %v", a, unit, again, want)
			}
		}
		isMultiple := len(s) == 0 || len(s) == 1 && s[0].Root == "1" && over(parse(s[0].Coef), parse(unit)).IsInt()
		if (o.down == o.up) != isMultiple {
			t.Errorf("%v in units of %s: %s and %s", s, unit, o.down, o.up)
		}
	})
}

func TestP6_5ShiftingAndScaling(t *testing.T) {
	count := 0
	eachRounded(t, func(s api.Surd, unit api.Num, o outcome) {
		for _, n := range []int64{1, -1, 7, -1000} {
			by := product(integer(n), unit)
			want := outcome{sum(o.down, by), sum(o.up, by), sum(o.near, by), o.steps + int(n), o.errors}
			if x := rounded(moved(s, by), unit); x.errors == o.errors {
				count++
				if x != want {
					t.Errorf("%v and %s in units of %s: %v, not %v", s, by, unit, x, want)
				}
			}
		}
		for _, c := range []api.Num{"2", "1/3", "7/5", num(tenTo(6))} {
			want := outcome{product(o.down, c), product(o.up, c), product(o.near, c), o.steps, o.errors}
			if x := rounded(scaled(s, c), product(unit, c)); x != want {
				t.Errorf("%v in units of %s, times %s: %v, not %v", s, unit, c, x, want)
			}
		}
		// from the other side down is up, and nearest is nearest but for halves
		x := rounded(scaled(s, "-1"), unit)
		if x.down != opposite(o.up) || x.up != opposite(o.down) {
			t.Errorf("the opposite of %v in units of %s: %v, not %v", s, unit, x, o)
		}
		isHalf := sum(o.down, halfOf(unit)) == difference(o.up, halfOf(unit)) && orderOf(t, s, sum(o.down, halfOf(unit))) == 0
		if !isHalf && x.near != opposite(o.near) || isHalf && (x.near != opposite(o.down) || o.near != o.up) {
			t.Errorf("the opposite of %v in units of %s: %v, not %v", s, unit, x, o)
		}
	})
	if count < 3000 {
		t.Error("too few:", count)
	}
}

func TestP6_6Order(t *testing.T) {
	list := someSurds()
	for _, a := range []api.Num{"2/5", "9/20", "49/100", "51/100", "11/20", "3/5", "7/5", "141/100", "99/70", "71/50", "-7/5", "-141/100", "-71/50"} {
		list = append(list, exact(a))
	}
	slices.SortFunc(list, func(a, b api.Surd) int { return value(a).Cmp(value(b)) })
	for _, unit := range someUnits() {
		var before outcome
		count := 0
		for _, s := range list {
			o := rounded(s, unit)
			if o.errors != all(api.OK) {
				continue
			}
			if count++; count > 1 && (isLess(o.down, before.down) || isLess(o.up, before.up) || isLess(o.near, before.near) || o.steps < before.steps) {
				t.Errorf("%v in units of %s: %v, after %v", s, unit, o, before)
			}
			before = o
		}
		if count < 50 {
			t.Errorf("too few in units of %s: %d", unit, count)
		}
	}
}

func isLess(a, b api.Num) bool { return parse(a).Cmp(parse(b)) < 0 }

// repeated is a number so many times.
func repeated(n, count int) []int { return slices.Repeat([]int{n}, count) }

func TestP6_1Share(t *testing.T) {
	const most = 1 << 30
	for _, x := range []struct {
		total   int
		weights []int
		want    []int
	}{
		{10, []int{1, 1, 1}, []int{4, 3, 3}}, {11, []int{1, 1, 1}, []int{4, 4, 3}}, {12, []int{1, 1, 1}, []int{4, 4, 4}}, {7, []int{3, 2, 1}, []int{4, 2, 1}}, {7, []int{1, 2, 3}, []int{1, 2, 4}}, {1, []int{1, 2}, []int{0, 1}}, {1, []int{2, 1}, []int{1, 0}}, {1, []int{1, 1}, []int{1, 0}}, {2, []int{1, 1, 1}, []int{1, 1, 0}}, {2, []int{1, 2, 2, 1}, []int{0, 1, 1, 0}}, {3, []int{1, 2, 2, 1}, []int{1, 1, 1, 0}}, {10, []int{6, 6, 7, 6}, []int{3, 2, 3, 2}},
		{5, []int{9}, []int{5}}, {0, []int{1, 2}, []int{0, 0}}, {0, []int{most}, []int{0}}, {10, []int{0, 5, 5}, []int{0, 5, 5}}, {3, []int{0, 1, 0, 1, 0}, []int{0, 2, 0, 1, 0}}, {1, []int{0, 0, 1}, []int{0, 0, 1}},
		{most, []int{most}, []int{most}}, {most, []int{1}, []int{most}}, {1, []int{most, most}, []int{1, 0}}, {most, []int{most, most, most}, []int{357913942, 357913941, 357913941}}, {most - 1, []int{most, 1}, []int{most - 2, 1}}, {most, []int{most, 1}, []int{most - 1, 1}}, {most, []int{most - 1, 1}, []int{most - 1, 1}},
		{most, repeated(most, 4096), repeated(most/4096, 4096)}, {4095, repeated(most, 4096), append(repeated(1, 4095), 0)}, {4097, repeated(1, 4096), append([]int{2}, repeated(1, 4095)...)},
	} {
		given := slices.Clone(x.weights)
		l, e := rounding.Share(x.total, x.weights)
		if !slices.Equal(l, x.want) || e != api.OK || !slices.Equal(l, shared(x.total, x.weights)) {
			t.Errorf("Share(%d, %v): %v, %d, not %v", x.total, x.weights, l, e, x.want)
		}
		if l[0] = -1; !slices.Equal(x.weights, given) {
			t.Errorf("Share(%d, %v) changes the weights", x.total, given)
		}
	}
}

func TestP6_1ShareErrors(t *testing.T) {
	const most = 1 << 30
	for _, x := range []struct {
		total   int
		weights []int
		want    api.Errno
	}{
		{-1, []int{1}, api.ErrRange}, {most + 1, []int{1}, api.ErrRange}, {math.MaxInt, []int{1}, api.ErrRange}, {math.MinInt, []int{1}, api.ErrRange},
		{5, []int{-1}, api.ErrRange}, {5, []int{most + 1}, api.ErrRange}, {5, []int{1, 2, math.MaxInt}, api.ErrRange}, {5, []int{math.MinInt, 1}, api.ErrRange}, {5, []int{-1, 1}, api.ErrRange}, {5, []int{1, -1, 7}, api.ErrRange}, {0, []int{0, -1}, api.ErrRange}, {5, append(repeated(1, 4095), -1), api.ErrRange},
		{5, repeated(1, 4097), api.ErrLimit}, {0, repeated(0, 4097), api.ErrLimit}, {5, repeated(-1, 4097), api.ErrLimit}, {5, repeated(most+1, 5000), api.ErrLimit},
		{5, nil, api.ErrZero}, {0, nil, api.ErrZero}, {0, []int{}, api.ErrZero}, {5, []int{0}, api.ErrZero}, {most, repeated(0, 4096), api.ErrZero},
		// the total comes first
		{-1, nil, api.ErrRange}, {most + 1, nil, api.ErrRange}, {-1, []int{0}, api.ErrRange}, {-1, repeated(1, 4097), api.ErrRange}, {most + 1, repeated(1, 4097), api.ErrRange},
	} {
		if l, e := rounding.Share(x.total, x.weights); len(l) != 0 || e != x.want {
			t.Errorf("Share(%d, %d weights): %v, %d, not %d", x.total, len(x.weights), l, e, x.want)
		}
	}
}

// anyWeights returns weights of some lengths; some of them are equal, or 0.
func anyWeights(r *rand.Rand) []int {
	count, most := 1+r.IntN([]int{3, 10, 60}[r.IntN(3)]), []int{1, 3, 20, 1000, 1 << 30}[r.IntN(5)]
	weights := make([]int, count)
	for i := range weights {
		if weights[i] = r.IntN(most + 1); i > 0 && r.IntN(4) == 0 {
			weights[i] = weights[r.IntN(i)]
		}
	}
	weights[r.IntN(count)] = most
	return weights
}

func TestP6_7Shares(t *testing.T) {
	r := random(3)
	for i := range 4000 {
		total, weights := r.IntN([]int{2, 10, 200, 1<<30 + 1}[i%4]), anyWeights(r)
		l, e := rounding.Share(total, weights)
		if !slices.Equal(l, shared(total, weights)) || e != api.OK {
			t.Errorf("Share(%d, %v): %v, %d", total, weights, l, e)
		}
		checkShares(t, total, weights, l)
	}
	weights := make([]int, 4096)
	for i := range weights {
		weights[i] = r.IntN(1<<30 + 1)
	}
	l, e := rounding.Share(1<<30-1, weights)
	if e != api.OK {
		t.Error(e)
	}
	checkShares(t, 1<<30-1, weights, l)
}

// checkShares tells an error if shares are not as the promise says.
func checkShares(t *testing.T, total int, weights, shares []int) {
	t.Helper()
	all, given := 0, 0
	for i, w := range weights {
		all += w
		given += shares[i]
	}
	if given != total {
		t.Errorf("the shares of %d add up to %d", total, given)
	}
	order := make([]int, len(weights))
	for i, w := range weights {
		// both fit into 64 bits
		if d := shares[i] - total*w/all; d < 0 || d > 1 || d == 1 && total*w%all == 0 {
			t.Errorf("%d gets %d of %d by the sum %d", w, shares[i], total, all)
		}
		order[i] = i
	}
	slices.SortStableFunc(order, func(a, b int) int { return weights[a] - weights[b] })
	for i, k := range order[1:] {
		before := order[i]
		if shares[k] < shares[before] && weights[k] > weights[before] {
			t.Errorf("%d gets %d, and %d gets %d", weights[k], shares[k], weights[before], shares[before])
		}
		if shares[k] > shares[before] && weights[k] == weights[before] {
			t.Errorf("%d gets %d, and later %d", weights[k], shares[before], shares[k])
		}
	}
}
