package enclosure_test

import (
	"math"
	"math/big"
	"math/rand/v2"
	"testing"

	"kingpost/api"
	"kingpost/enclosure"
	"kingpost/surd"
)

// The results are compared with those of reference_test.go, and with each
// other as the promises say.

// badRanges are no ranges, with the errors that Check has for them.
func badRanges() []struct {
	r    api.Range
	want api.Errno
} {
	longer := num(nines(301))
	return []struct {
		r    api.Range
		want api.Errno
	}{
		{api.Range{}, api.ErrNumber}, {between("", "1"), api.ErrNumber}, {between("1", ""), api.ErrNumber}, {between("2/2", "3"), api.ErrNumber}, {between("0", "2/4"), api.ErrNumber}, {between("-0", "1"), api.ErrNumber}, {between("0", "01"), api.ErrNumber}, {between("0", "1/"), api.ErrNumber}, {between("1.5", "2"), api.ErrNumber},
		{between(longer, "1"), api.ErrLimit}, {between("1", longer), api.ErrLimit}, {between("-1/"+longer, "1"), api.ErrLimit}, {between("0", "1/"+longer), api.ErrLimit},
		// the error of Low comes before that of High, and both before the others
		{between("x", longer), api.ErrNumber}, {between(longer, "x"), api.ErrLimit}, {between("2", "1/1"), api.ErrNumber}, {between("1", num("-", nines(301))), api.ErrLimit},
		// numbers that layer 2 does not compare, in their order or not
		{between(num("1/", nines(300)), num(tenTo(1), "/", nines(2))), api.ErrLimit}, {between(num("-", tenTo(299), "/3"), num("1/", nines(300))), api.ErrLimit}, {between(num(tenTo(299)), num("1/", tenTo(299))), api.ErrLimit}, {between("1/7", num(nines(300))), api.ErrLimit},
		{between("1", "1/2"), api.ErrOrder}, {between("1", "0"), api.ErrOrder}, {between("0", "-1"), api.ErrOrder}, {between("-1/3", "-1/2"), api.ErrOrder}, {between("10", "9"), api.ErrOrder}, {between("2", "-2"), api.ErrOrder}, {between(num(nines(300)), num(tenTo(299))), api.ErrOrder},
	}
}

// someNumbers are numbers of all signs and lengths, in ascending order.
func someNumbers() []api.Num {
	return []api.Num{
		num("-", nines(300)), num("-", nines(151)), num("-", nines(149)), num("-", nines(76), "/", tenTo(74)), "-7", "-2", "-3/2", num("-", tenTo(75), "/", nines(75)), "-1", "-1/3", num("-1/", nines(150)), num("-1/", nines(300)), "0",
		num("1/", nines(300)), num("1/", nines(151)), num("1/", tenTo(90)), num("10/", nines(90)), "1/4", "1/2", "1", num(tenTo(75), "/", nines(75)), "3/2", "2", "4", "29/3", num(nines(76), "/", tenTo(74)), num(tenTo(40)), num(nines(90)), num(tenTo(90)), num(nines(150)), num(nines(299)),
	}
}

// someRanges are the ranges between these numbers that can be compared.
func someRanges() []api.Range {
	var l []api.Range
	numbers := someNumbers()
	for i, low := range numbers {
		for _, high := range numbers[i:] {
			if r := between(low, high); check(r) == api.OK {
				l = append(l, r)
			}
		}
	}
	return l
}

func TestP5_1Check(t *testing.T) {
	good := []api.Range{between("0", "0"), between("-7/3", "-7/3"), between("0", "1"), between("-1", "0"), between("-1", "1"), between("-1/2", "-1/3"), between("9", "10"), between("-10", "-9"), between("1/3", "1/2"), between(num("-", nines(300)), num(nines(300))), between(num("1/", nines(300)), num("1/", tenTo(299))), between("0", num("1/", nines(300))), between(num("1/", nines(300)), "1")}
	for _, r := range good {
		if e := enclosure.Check(r); e != api.OK || check(r) != api.OK {
			t.Errorf("Check(%v): %d", r, e)
		}
	}
	for _, x := range badRanges() {
		if e := enclosure.Check(x.r); e != x.want || check(x.r) != x.want {
			t.Errorf("Check(%v): %d, not %d", x.r, e, x.want)
		}
	}
	for _, low := range someNumbers() {
		for _, high := range someNumbers() {
			if e := enclosure.Check(between(low, high)); e != check(between(low, high)) {
				t.Errorf("Check(%s, %s): %d", low, high, e)
			}
		}
	}
}

func TestP5_1RangeErrors(t *testing.T) {
	good := between("-1", "4")
	for _, x := range badRanges() {
		for _, y := range [][2]api.Range{{x.r, good}, {good, x.r}, {x.r, x.r}, {x.r, {}}, {{}, x.r}} {
			a, e := enclosure.Add(y[0], y[1])
			b, f := enclosure.Mul(y[0], y[1])
			c, is, g := enclosure.Meet(y[0], y[1])
			if a != (api.Range{}) || b != a || c != a || is || e != api.ErrArgument || f != e || g != e {
				t.Errorf("%v: %v, %d; %v, %d; %v, %v, %d", y, a, e, b, f, c, is, g)
			}
		}
		for _, places := range []int{-1, 0, 40, 41} {
			if r, e := enclosure.Root(x.r, places); r != (api.Range{}) || e != api.ErrArgument {
				t.Errorf("Root(%v, %d): %v, %d", x.r, places, r, e)
			}
		}
		// the error of the range comes before those of the surd
		for _, s := range []api.Surd{nil, of("1", "2"), of(num(nines(21)), "2"), of("1", "4")} {
			if is, e := enclosure.Contains(x.r, s); is || e != api.ErrArgument {
				t.Errorf("Contains(%v, %v): %v, %d", x.r, s, is, e)
			}
		}
		if w, e := enclosure.Width(x.r); w != "" || e != api.ErrArgument {
			t.Errorf("Width(%v): %s, %d", x.r, w, e)
		}
	}
}

// noSurds are no surds.
func noSurds() []api.Surd {
	return []api.Surd{of("0", "1"), of("1", "4"), of("", "1"), of("1", "x"), of("2/4", "1"), of("1", "-2"), of("1", "0"), of("1", "1/2"), of("1", "3", "1", "2"), of("1", "2", "1", "2"), of("1", "2", "1", "20402"), make(api.Surd, 17), of(num(nines(61)), "1"), of("1", num(sevens(41))), of(num(nines(21)), "1", "0", "2")}
}

// longSurds are surds that are not short.
func longSurds() []api.Surd {
	return []api.Surd{of(num(nines(21)), "1"), of(num("-", tenTo(20)), "2"), of(num("1/", tenTo(20)), "1"), of(num("-1/", nines(21)), "3"), of("1", "2", num(nines(60)), "3"), of(num(tenTo(20)), "2", "1", "3"), of(num(tenTo(20), "/", nines(21)), "5")}
}

// barelyShort are surds with Coefs of 20 digits.
func barelyShort() []api.Surd {
	return []api.Surd{of(num(nines(20)), "1"), of(num("-", nines(20)), "1"), of(num("1/", nines(20)), "1"), of(num("-", nines(20), "/", tenTo(19)), "2"), of(num(tenTo(19), "/", nines(20)), "3"), of(num("-", nines(20)), num(sevens(40))), of(num("1/", nines(20)), num(sevens(40))), of(num("-1/", nines(20)), "1", num(nines(20)), "2")}
}

func TestP5_1SurdErrors(t *testing.T) {
	good, wide := of("1", "1", "-1/2", "2"), between("-1", "1")
	for _, s := range noSurds() {
		for _, places := range []int{-1, 0, 40, 41} {
			if r, e := enclosure.Of(s, places); r != (api.Range{}) || e != api.ErrArgument {
				t.Errorf("Of(%v, %d): %v, %d", s, places, r, e)
			}
		}
		if is, e := enclosure.Contains(wide, s); is || e != api.ErrArgument {
			t.Errorf("Contains(%v): %v, %d", s, is, e)
		}
		for _, x := range [][2]api.Surd{{s, good}, {good, s}, {s, s}, {s, longSurds()[0]}, {longSurds()[0], s}} {
			if n, e := enclosure.Separate(x[0], x[1]); n != 0 || e != api.ErrArgument {
				t.Errorf("Separate(%v, %v): %d, %d", x[0], x[1], n, e)
			}
		}
	}
	for _, s := range longSurds() {
		for _, places := range []int{-1, 0, 40, 41} {
			if r, e := enclosure.Of(s, places); r != (api.Range{}) || e != api.ErrLimit {
				t.Errorf("Of(%v, %d): %v, %d", s, places, r, e)
			}
		}
		for _, r := range []api.Range{wide, between("0", "0"), between("0", num(nines(61)))} {
			if is, e := enclosure.Contains(r, s); is || e != api.ErrLimit {
				t.Errorf("Contains(%v, %v): %v, %d", r, s, is, e)
			}
		}
		for _, x := range [][2]api.Surd{{s, good}, {good, s}, {s, s}} {
			if n, e := enclosure.Separate(x[0], x[1]); n != 0 || e != api.ErrLimit {
				t.Errorf("Separate(%v, %v): %d, %d", x[0], x[1], n, e)
			}
		}
	}
	for _, s := range append(barelyShort(), nil, good) {
		for _, places := range []int{-1, 41, math.MinInt, math.MaxInt} {
			if r, e := enclosure.Of(s, places); r != (api.Range{}) || e != api.ErrRange {
				t.Errorf("Of(%v, %d): %v, %d", s, places, r, e)
			}
		}
		if e := checkSurd(s); e != api.OK {
			t.Errorf("%v: %d", s, e)
		}
	}
}

// sameOf compares the range of a surd with the one that it should have.
func sameOf(t *testing.T, s api.Surd, places int) (api.Range, api.Errno) {
	t.Helper()
	r, e := enclosure.Of(s, places)
	if want, wantE := enclosed(s, places); r != want || e != wantE {
		t.Errorf("Of(%v, %d): %v, %d, not %v, %d", s, places, r, e, want, wantE)
	}
	return r, e
}

func TestP5_1Of(t *testing.T) {
	for _, x := range []struct {
		s      api.Surd
		places int
		want   api.Range
	}{
		{nil, 0, between("0", "0")}, {nil, 17, between("0", "0")}, {api.Surd{}, 40, between("0", "0")}, {of("1", "2"), 0, between("1", "2")}, {of("1", "2"), 3, between("707/500", "283/200")}, {of("-1", "2"), 3, between("-283/200", "-707/500")}, {of("-1", "2"), 0, between("-2", "-1")},
		{of("1", "2"), 40, between(text(times(parse("14142135623730950488016887242096980785696"), unit(40))), num("14142135623730950488016887242096980785697/", tenTo(40)))},
		// decimals with so many places, and with more
		{of("7", "1"), 0, between("7", "7")}, {of("-7", "1"), 0, between("-7", "-7")}, {of("-7", "1"), 40, between("-7", "-7")}, {of("1/2", "1"), 0, between("0", "1")}, {of("1/2", "1"), 1, between("1/2", "1/2")}, {of("-1/2", "1"), 0, between("-1", "0")}, {of("-1/2", "1"), 1, between("-1/2", "-1/2")}, {of("1/8", "1"), 2, between("3/25", "13/100")}, {of("1/8", "1"), 3, between("1/8", "1/8")}, {of("-9/8", "1"), 2, between("-113/100", "-28/25")}, {of("1/3", "1"), 1, between("3/10", "2/5")}, {of("-1/3", "1"), 0, between("-1", "0")},
		{of(num("1/", tenTo(19)), "1"), 18, between("0", num("1/", tenTo(18)))}, {of(num("1/", tenTo(19)), "1"), 19, between(num("1/", tenTo(19)), num("1/", tenTo(19)))}, {of(num("1/", tenTo(19)), "1"), 40, between(num("1/", tenTo(19)), num("1/", tenTo(19)))},
		// a decimal and what is not: 1 + root 2 less, and root 2 less 1
		{of("-1", "1", "1", "2"), 1, between("2/5", "1/2")}, {of("1", "1", "-1", "2"), 1, between("-1/2", "-2/5")}, {of("-7", "1", "5", "2"), 1, between("0", "1/10")}, {of("-7", "1", "5", "2"), 2, between("7/100", "2/25")}, {of("99", "1", "-70", "2"), 2, between("0", "1/100")}, {of("-99", "1", "70", "2"), 2, between("-1/100", "0")}, {of("99", "1", "-70", "2"), 3, between("1/200", "3/500")},
		{of("1", "2", "1", "3", "-1", "10"), 1, between("-1/10", "0")}, {of("1", "20402"), 0, between("142", "143")},
	} {
		if r, e := sameOf(t, x.s, x.places); r != x.want || e != api.OK {
			t.Errorf("Of(%v, %d): %v, %d, not %v", x.s, x.places, r, e, x.want)
		}
	}
}

// primes returns the surd of the roots of the first n primes, all with a Coef.
func primes(n int, coef api.Num) api.Surd {
	var s api.Surd
	for p := int64(2); len(s) < n; p++ {
		if big.NewInt(p).ProbablyPrime(0) {
			s = append(s, api.Term{Coef: coef, Root: text(whole(p))})
		}
	}
	return s
}

// made returns the surd that a function should have returned.
func made(s api.Surd, e api.Errno) api.Surd {
	if e != api.OK {
		panic("no surd")
	}
	return s
}

func scaled(s api.Surd, c api.Num) api.Surd  { return made(surd.Scale(s, c)) }
func shifted(s api.Surd, c api.Num) api.Surd { return made(surd.Add(s, exact(c))) }

// tiny are short surds of about -10^-39, -10^-57 and 10^-77: what their terms
// are has been found by reducing a lattice.
func tiny() [3]api.Surd {
	return [3]api.Surd{
		of("-1706895289973353643", "2", "1637850936797362025", "3", "-189138511611407106", "5"),
		of("3007329230965260819", "2", "-1902232207901087025", "3", "-440531139969805549", "5", "10134974512647858", "7"),
		of("3060261575948249926", "2", "-2603012974316591580", "3", "3000829509526863640", "5", "3901928355980686323", "7", "-5081341605342542840", "11"),
	}
}

// nearDecimal is about 10^-80 away from a decimal with 40 places, and not near
// to one with less.
func nearDecimal() api.Surd {
	return of("-13379476947149348220", "2", "844578635399117535", "3")
}

// below20 is a bit less than 10^20.
func below20() api.Surd { return of("70710678118654752440", "2") }

func TestP5_1OfWithoutDecision(t *testing.T) {
	for _, x := range []struct {
		s      api.Surd
		places int
		want   api.Errno
	}{
		// a decimal is a further term, if it is not 0
		{primes(15, "1"), 0, api.OK}, {primes(15, "1"), 40, api.OK}, {primes(15, "-1/7"), 40, api.OK}, {shifted(primes(15, "1"), "1"), 40, api.OK}, {primes(16, "1"), 0, api.ErrLimit}, {primes(16, "1/100"), 0, api.ErrLimit}, {primes(16, "-1/100"), 0, api.ErrLimit}, {primes(16, "1/100"), 40, api.ErrLimit}, {primes(16, "1"), 41, api.ErrRange},
		// a decimal that is too long is no surd
		{of(num(nines(20)), "1"), 40, api.OK}, {below20(), 39, api.OK}, {below20(), 40, api.OK}, {of(num(nines(20)), "2"), 39, api.OK}, {of(num(nines(20)), "2"), 40, api.ErrLimit}, {of(num("-", nines(20)), "2"), 40, api.ErrLimit}, {of("1", num(sevens(40))), 40, api.OK}, {of(num(nines(20)), num(sevens(40))), 20, api.OK}, {of(num(nines(20)), num(sevens(40))), 21, api.ErrLimit}, {of(num("-", nines(20)), num(sevens(40))), 40, api.ErrLimit},
		{of(num("-1/", nines(20)), "1", "1", "2"), 40, api.OK}, {of(num(nines(20), "/", tenTo(19)), "1", "1", "2"), 40, api.OK},
		// the terms are too near to a decimal
		{tiny()[0], 0, api.OK}, {tiny()[0], 40, api.OK}, {tiny()[1], 40, api.OK}, {tiny()[2], 0, api.ErrLimit}, {tiny()[2], 40, api.ErrLimit}, {scaled(tiny()[2], "-1"), 7, api.ErrLimit}, {shifted(tiny()[2], "5"), 0, api.ErrLimit},
		{shifted(tiny()[2], "1/2"), 0, api.OK}, {shifted(tiny()[2], "1/2"), 1, api.ErrLimit}, {shifted(tiny()[2], "1/2"), 40, api.ErrLimit}, {shifted(tiny()[2], "-1/8"), 2, api.OK}, {shifted(tiny()[2], "-1/8"), 3, api.ErrLimit}, {shifted(tiny()[2], "1/3"), 40, api.OK}, {shifted(tiny()[2], num("1/", tenTo(19))), 18, api.OK}, {shifted(tiny()[2], num("1/", tenTo(19))), 19, api.ErrLimit},
		{nearDecimal(), 38, api.OK}, {nearDecimal(), 39, api.OK}, {nearDecimal(), 40, api.ErrLimit},
	} {
		if r, e := sameOf(t, x.s, x.places); e != x.want || e != api.OK && r != (api.Range{}) {
			t.Errorf("Of(%v, %d): %v, %d, not %d", x.s, x.places, r, e, x.want)
		}
	}
}

// Some of these surds are within some 10^-64 of a decimal, which is where
// comparisons begin to be decided, and where their order counts.
func TestP5_1OfNearDecimals(t *testing.T) {
	counts := map[api.Errno]int{}
	asymmetric := 0
	for k := int64(1); k <= 400; k++ {
		s := scaled(tiny()[1], text(times(whole(k), unit(9))))
		if k%2 == 0 {
			s = scaled(s, "-1")
		}
		for _, c := range []api.Num{"0", "3", "-1/2", "7/8"} {
			near := shifted(s, c)
			_, e := sameOf(t, near, 3)
			counts[e]++
			if _, f := surd.Compare(near, exact(c)); e != f {
				asymmetric++
			}
		}
	}
	if counts[api.OK] < 100 || counts[api.ErrLimit] < 100 || asymmetric < 10 {
		t.Error(counts, asymmetric)
	}
	for _, s := range tiny() {
		for places := range 20 {
			for _, c := range []api.Num{"0", "1", "-1/1024", "1/3", num("-1/", tenTo(19))} {
				near := shifted(scaled(s, text(unit(places))), c)
				for _, n := range []int{0, 9, 10, 18, 19, 40} {
					sameOf(t, near, n)
				}
			}
		}
	}
}

// freeRoots are Roots of which no two have a rational ratio.
func freeRoots() []api.Num {
	return []api.Num{"1", "2", "3", "5", "6", "7", "10", "11", "13", "14", "15", "17", "19", "101", "103", "10403", "214221", "99990001", num(sevens(40)), "1000000000000000000000000000000000000003"}
}

// anyCoef returns a number, not 0, with at most so many digits in its parts.
func anyCoef(r *rand.Rand, most int) api.Num {
	a := parse(num(digits(r, 1+r.IntN(most)), "/", digits(r, 1+r.IntN(most))))
	if r.IntN(3) == 0 {
		a.SetInt(a.Num())
	}
	if r.IntN(2) == 0 {
		a.Neg(a)
	}
	return text(a)
}

// digits returns n digits in which 0 and 9 are frequent.
func digits(r *rand.Rand, n int) string {
	out := []byte{byte('1' + r.IntN(9))}
	for len(out) < n {
		out = append(out, "0099"[r.IntN(4)], byte('0'+r.IntN(10)))
	}
	return string(out[:n])
}

// anySurd returns a surd with at most so many terms, and digits in the parts of
// their Coefs.
func anySurd(r *rand.Rand, terms, most int) api.Surd {
	roots := freeRoots()
	r.Shuffle(len(roots), func(i, k int) { roots[i], roots[k] = roots[k], roots[i] })
	var l []api.Term
	for _, n := range roots[:r.IntN(terms+1)] {
		l = append(l, api.Term{Coef: anyCoef(r, most), Root: n})
	}
	return made(surd.Make(l))
}

// shorts returns short surds of all kinds.
func shorts() []api.Surd {
	out := []api.Surd{
		nil, of("1", "1"), of("-1", "1"), of("1/2", "1"), of("-7/3", "1"), of("1/40", "1"), of("-1/36893488147419103232", "1"), of("1", "2"), of("-1", "2"), of("1", "3"), of("7/5", "1"), of("17/12", "1"), of("1", "1", "1", "2"), of("-7", "1", "5", "2"), of("-8", "1", "5", "2"), of("1", "2", "1", "3"), of("1", "10"),
		of("1", "20402"), of("101", "2"), of("1", "3", "1", "20402"), of("101", "2", "1", "3"), primes(16, "1"), primes(15, "-1/3"), nearDecimal(), below20(),
	}
	out = append(out, barelyShort()...)
	for _, s := range tiny() {
		out = append(out, s, shifted(s, "1/8"), scaled(s, num("1/", tenTo(10))))
	}
	r := random(1)
	for i := range 120 {
		out = append(out, anySurd(r, 1+i%16, []int{1, 2, 5, 10, 20}[i%5]))
	}
	return out
}

func TestP5_2Enclosure(t *testing.T) {
	counts := map[api.Errno]int{}
	for _, s := range shorts() {
		for _, places := range []int{0, 1, 2, 3, 9, 19, 20, 30, 39, 40} {
			r, e := sameOf(t, s, places)
			if counts[e]++; e != api.OK {
				continue
			}
			if is, e := enclosure.Contains(r, s); !is || e != api.OK {
				t.Errorf("%v does not lie in %v: %v, %d", s, r, is, e)
			}
			w, e := enclosure.Width(r)
			isDecimal := w == "0"
			if e != api.OK || enclosure.Check(r) != api.OK || !isDecimal && w != text(unit(places)) {
				t.Errorf("%v is %s wide, %d", r, w, e)
			}
			if inUnits := over(value(s), unit(places)); isDecimal != inUnits.IsInt() {
				t.Errorf("%v with %d places: %v", s, places, r)
			}
		}
	}
	if counts[api.OK] < 1000 || counts[api.ErrLimit] < 50 {
		t.Error(counts)
	}
}

func TestP5_3Refinement(t *testing.T) {
	for _, s := range shorts() {
		var before api.Range
		for places := range 41 {
			r, e := enclosure.Of(s, places)
			if e != api.OK {
				continue
			}
			if before != (api.Range{}) {
				if both, is, e := enclosure.Meet(before, r); both != r || !is || e != api.OK {
					t.Errorf("%v with %d places: %v, not within %v", s, places, r, before)
				}
			}
			before = r
		}
	}
}

// same compares the result of a function with what it should be.
func same(t *testing.T, name string, a, b, got, want api.Range, e, f api.Errno) {
	t.Helper()
	if got != want || e != f {
		t.Errorf("%s(%v, %v): %v, %d, not %v, %d", name, a, b, got, e, want, f)
	}
}

func TestP5_1Arithmetic(t *testing.T) {
	var sums, products, meets, widths [api.ErrLimit + 1]int
	list := someRanges()
	r := random(2)
	for i := range 20000 {
		a, b := list[i%len(list)], list[r.IntN(len(list))]
		x, e := enclosure.Add(a, b)
		want, f := sumOf(a, b)
		same(t, "Add", a, b, x, want, e, f)
		sums[f]++
		x, e = enclosure.Mul(a, b)
		want, f = productOf(a, b)
		same(t, "Mul", a, b, x, want, e, f)
		products[f]++
		x, is, e := enclosure.Meet(a, b)
		want, isWanted, f := commonOf(a, b)
		same(t, "Meet", a, b, x, want, e, f)
		meets[f]++
		if is != isWanted {
			t.Errorf("Meet(%v, %v): %v", a, b, is)
		}
	}
	for _, a := range list {
		w, e := enclosure.Width(a)
		want, ok := difference(a.High, a.Low)
		x, f := limited(between(want, want), ok)
		same(t, "Width", a, a, between(w, w), x, e, f)
		widths[f]++
	}
	for i, c := range [][api.ErrLimit + 1]int{sums, products, meets, widths} {
		if c[api.OK] < 100 || c[api.ErrLimit] < 10 {
			t.Errorf("function %d: %v", i, c)
		}
	}
}

func TestP5_1Add(t *testing.T) {
	most := num(nines(300))
	for _, x := range []struct {
		a, b, want api.Range
		e          api.Errno
	}{
		{between("-1", "2"), between("1/2", "3"), between("-1/2", "5"), api.OK}, {between("1", "1"), between("-1", "-1"), between("0", "0"), api.OK}, {between("1/3", "1/2"), between("0", "0"), between("1/3", "1/2"), api.OK}, {between("-3", "-2"), between("-5", "-4"), between("-8", "-6"), api.OK},
		{between("0", most), between("0", "0"), between("0", most), api.OK}, {between("0", most), between("0", "1"), api.Range{}, api.ErrLimit}, {between(num("-", nines(300)), "0"), between("-1", "0"), api.Range{}, api.ErrLimit}, {between("0", most), between("-1", "-1"), between("-1", num(nines(299), "8")), api.OK},
		{between(num("1/", nines(151)), "1"), between(num("1/", nines(150)), "1"), api.Range{}, api.ErrLimit}, {between("0", num("1/", nines(151))), between("0", num("1/", nines(151))), api.Range{}, api.ErrLimit},
	} {
		r, e := enclosure.Add(x.a, x.b)
		same(t, "Add", x.a, x.b, r, x.want, e, x.e)
	}
	// both sums are there, although they are too long to be compared
	a, b := between(num("1/", nines(149), "8"), num("1/", nines(149), "7")), between(num("1/", nines(149), "4"), num("1/", nines(149), "3"))
	r, e := enclosure.Add(a, b)
	if want, f := sumOf(a, b); r != want || e != f || e != api.OK || enclosure.Check(r) != api.ErrLimit {
		t.Error("sums of inverses:", r, e, enclosure.Check(r))
	}
}

func TestP5_1Mul(t *testing.T) {
	most, long := num(nines(300)), num(nines(150))
	for _, x := range []struct {
		a, b, want api.Range
		e          api.Errno
	}{
		{between("-1", "2"), between("1/2", "3"), between("-3", "6"), api.OK}, {between("2", "3"), between("5", "7"), between("10", "21"), api.OK}, {between("-3", "-2"), between("5", "7"), between("-21", "-10"), api.OK}, {between("-3", "-2"), between("-7", "-5"), between("10", "21"), api.OK}, {between("-1", "2"), between("-3", "4"), between("-6", "8"), api.OK}, {between("-5", "2"), between("-3", "4"), between("-20", "15"), api.OK}, {between("-1", "2"), between("-7", "-5"), between("-14", "7"), api.OK},
		{between("0", "2"), between("-3", "5"), between("-6", "10"), api.OK}, {between("-2", "0"), between("-3", "5"), between("-10", "6"), api.OK}, {between("0", "0"), between("-3", "5"), between("0", "0"), api.OK}, {between("0", "2"), between("0", "3"), between("0", "6"), api.OK}, {between("-2", "0"), between("0", "3"), between("-6", "0"), api.OK}, {between("1/2", "1/2"), between("2/3", "2/3"), between("1/3", "1/3"), api.OK}, {between("-1/2", "-1/2"), between("-4", "6"), between("-3", "2"), api.OK},
		{between("1", most), between("0", "1"), between("0", most), api.OK}, {between("1", most), between("1", "2"), api.Range{}, api.ErrLimit}, {between("-1", "0"), between("0", most), between(num("-", nines(300)), "0"), api.OK}, {between(long, long), between(long, long), between(text(times(parse(long), parse(long))), text(times(parse(long), parse(long)))), api.OK}, {between("0", num(nines(151))), between("0", num(tenTo(149))), between("0", num(nines(151), tenTo(149)[1:])), api.OK}, {between("0", num(nines(151))), between("0", num(tenTo(150))), api.Range{}, api.ErrLimit},
		{between("0", num("1/", nines(151))), between("0", num("1/", tenTo(150))), api.Range{}, api.ErrLimit}, {between(num("-", nines(151)), "1"), between(num("-", tenTo(150)), "1"), api.Range{}, api.ErrLimit}, {between(num("-", nines(151)), "1"), between("-1", num(tenTo(150))), api.Range{}, api.ErrLimit}, {between("-1", num(nines(151))), between(num("-", tenTo(150)), "1"), api.Range{}, api.ErrLimit},
	} {
		r, e := enclosure.Mul(x.a, x.b)
		same(t, "Mul", x.a, x.b, r, x.want, e, x.e)
	}
}

// Each product is compared with the least and the greatest one before it, and
// with no other one: here the first and the last one are too long for it.
func TestP5_1MulComparisons(t *testing.T) {
	low, high := num(tenTo(75), "/", nines(75)), num(nines(76), "/", tenTo(74))
	square := func(a api.Num) api.Num { return text(times(parse(a), parse(a))) }
	if _, ok := order(square(low), square(high)); ok {
		t.Error("the squares are short")
	}
	middle := text(times(parse(low), parse(high)))
	for _, x := range []struct {
		a, b, want api.Range
		e          api.Errno
	}{
		{between(low, high), between(low, high), api.Range{}, api.ErrLimit},
		{between("-"+high, "-"+low), between("-"+high, "-"+low), api.Range{}, api.ErrLimit},
		{between(low, high), between("-"+low, high), between("-"+middle, square(high)), api.OK},
		{between("-"+low, high), between(low, high), between("-"+middle, square(high)), api.OK},
		{between(low, high), between("-"+high, "-"+low), api.Range{}, api.ErrLimit},
	} {
		r, e := enclosure.Mul(x.a, x.b)
		same(t, "Mul", x.a, x.b, r, x.want, e, x.e)
		if want, f := productOf(x.a, x.b); want != x.want || f != x.e {
			t.Errorf("%v times %v should be %v, %d", x.a, x.b, want, f)
		}
	}
}

func TestP5_1Meet(t *testing.T) {
	for _, x := range []struct {
		a, b, want api.Range
		is         bool
		e          api.Errno
	}{
		{between("-1", "2"), between("1/2", "3"), between("1/2", "2"), true, api.OK}, {between("0", "1"), between("1", "2"), between("1", "1"), true, api.OK}, {between("-2", "-1"), between("-1", "0"), between("-1", "-1"), true, api.OK}, {between("0", "9"), between("1", "2"), between("1", "2"), true, api.OK}, {between("0", "9"), between("0", "9"), between("0", "9"), true, api.OK}, {between("0", "9"), between("0", "2"), between("0", "2"), true, api.OK}, {between("0", "9"), between("1", "9"), between("1", "9"), true, api.OK}, {between("0", "1"), between("1/2", "1/2"), between("1/2", "1/2"), true, api.OK}, {between("3", "3"), between("3", "3"), between("3", "3"), true, api.OK},
		{between("0", "1"), between("3/2", "2"), api.Range{}, false, api.OK}, {between("-2", "-1"), between("1", "2"), api.Range{}, false, api.OK}, {between("0", "0"), between(num("1/", nines(300)), "1"), api.Range{}, false, api.OK}, {between("1", "1"), between("2", "2"), api.Range{}, false, api.OK},
		// numbers that layer 2 does not compare: the Lows, the Highs, and one of each
		{between(num("1/", nines(151)), "1"), between(num(tenTo(149), "/7"), num(tenTo(150))), api.Range{}, false, api.OK}, {between(num("1/", nines(151)), "1"), between(num(tenTo(150), "/", nines(151)), "1"), api.Range{}, false, api.ErrLimit}, {between("-1", num("1/", nines(151))), between("-1", num(tenTo(150), "/", nines(151))), api.Range{}, false, api.ErrLimit}, {between("-1", num("1/", nines(300))), between("2/3", "1"), api.Range{}, false, api.ErrLimit}, {between("-1", num("1/", nines(300))), between("-2", "-1"), between("-1", "-1"), true, api.OK}, {between("2", num(tenTo(299))), between("-1", num("1/", nines(300))), api.Range{}, false, api.ErrLimit},
	} {
		for _, y := range [2][2]api.Range{{x.a, x.b}, {x.b, x.a}} {
			r, is, e := enclosure.Meet(y[0], y[1])
			same(t, "Meet", y[0], y[1], r, x.want, e, x.e)
			if is != x.is {
				t.Errorf("Meet(%v, %v): %v", y[0], y[1], is)
			}
		}
	}
}

func TestP5_1Width(t *testing.T) {
	for _, x := range []struct {
		a    api.Range
		want api.Num
		e    api.Errno
	}{
		{between("1/2", "3"), "5/2", api.OK}, {between("-1", "2"), "3", api.OK}, {between("-5/2", "-1"), "3/2", api.OK}, {between("0", "0"), "0", api.OK}, {between("-1/3", "-1/3"), "0", api.OK}, {between("0", num(nines(300))), num(nines(300)), api.OK}, {between("-1", num(nines(300))), "", api.ErrLimit}, {between("-1", num(nines(299), "8")), num(nines(300)), api.OK}, {between(num("1/", nines(151)), num("1/", nines(150))), "", api.ErrLimit}, {between(num("-1/", nines(151)), num("1/", nines(151))), "", api.ErrLimit},
	} {
		if w, e := enclosure.Width(x.a); w != x.want || e != x.e {
			t.Errorf("Width(%v): %s, %d, not %s, %d", x.a, w, e, x.want, x.e)
		}
	}
}

func TestP5_1Root(t *testing.T) {
	long, longer := num(nines(90)), num(tenTo(90))
	for _, x := range []struct {
		a      api.Range
		places int
		want   api.Range
		e      api.Errno
	}{
		{between("2", "4"), 1, between("7/5", "2"), api.OK}, {between("0", "0"), 3, between("0", "0"), api.OK}, {between("0", "2"), 0, between("0", "2"), api.OK}, {between("0", "1/9"), 1, between("0", "2/5"), api.OK}, {between("1/4", "1/2"), 0, between("0", "1"), api.OK}, {between("1/4", "1/2"), 1, between("1/2", "4/5"), api.OK}, {between("1/4", "1/2"), 2, between("1/2", "71/100"), api.OK}, {between("2", "2"), 3, between("707/500", "283/200"), api.OK}, {between("9/4", "9/4"), 0, between("1", "2"), api.OK}, {between("9/4", "9/4"), 1, between("3/2", "3/2"), api.OK},
		{between("0", num("1/", tenTo(80))), 40, between("0", num("1/", tenTo(40))), api.OK}, {between(num("1/", tenTo(80)), num("1/", tenTo(80))), 39, between("0", num("1/", tenTo(39))), api.OK},
		{between("0", long), 0, between("0", num(tenTo(45))), api.OK}, {between(num(tenTo(88)), long), 0, between(num(tenTo(44)), num(tenTo(45))), api.OK}, {between(num("1/", nines(90)), "1"), 40, between("0", "1"), api.OK}, {between("0", "0"), 0, between("0", "0"), api.OK},
		{between("-1", "1"), 0, api.Range{}, api.ErrRange}, {between("-1", "0"), 0, api.Range{}, api.ErrRange}, {between("-2", "-1"), 40, api.Range{}, api.ErrRange}, {between("1", "1"), 41, api.Range{}, api.ErrRange}, {between("1", "1"), -1, api.Range{}, api.ErrRange}, {between("1", "2"), math.MaxInt, api.Range{}, api.ErrRange}, {between("1", "2"), math.MinInt, api.Range{}, api.ErrRange}, {between(num("-1/", tenTo(90)), "1"), 0, api.Range{}, api.ErrRange}, {between("-1", longer), 0, api.Range{}, api.ErrRange}, {between("-"+longer, "1"), 0, api.Range{}, api.ErrRange}, {between(longer, longer), 41, api.Range{}, api.ErrRange},
		{between("0", longer), 0, api.Range{}, api.ErrLimit}, {between(longer, longer), 40, api.Range{}, api.ErrLimit}, {between(num("1/", tenTo(90)), "1"), 0, api.Range{}, api.ErrLimit}, {between("0", num("1/", tenTo(90))), 0, api.Range{}, api.ErrLimit}, {between(num("1/", tenTo(90)), num("1/", tenTo(90))), 0, api.Range{}, api.ErrLimit},
	} {
		if r, e := enclosure.Root(x.a, x.places); r != x.want || e != x.e {
			t.Errorf("Root(%v, %d): %v, %d, not %v, %d", x.a, x.places, r, e, x.want, x.e)
		}
	}
}

func TestP5_5Roots(t *testing.T) {
	count := 0
	for _, a := range someRanges() {
		if parse(a.Low).Sign() < 0 {
			continue
		}
		for _, places := range []int{0, 1, 5, 39, 40} {
			r, e := enclosure.Root(a, places)
			if want, f := rootOf(a, places); r != want || e != f {
				t.Errorf("Root(%v, %d): %v, %d, not %v, %d", a, places, r, e, want, f)
			}
			if e != api.OK {
				continue
			}
			count++
			low, high := parse(r.Low), parse(r.High)
			above, below := plus(low, unit(places)), minus(high, unit(places))
			if times(low, low).Cmp(parse(a.Low)) > 0 || times(high, high).Cmp(parse(a.High)) < 0 {
				t.Errorf("the squares of %v do not enclose %v", r, a)
			}
			if times(above, above).Cmp(parse(a.Low)) <= 0 || high.Sign() > 0 && times(below, below).Cmp(parse(a.High)) >= 0 {
				t.Errorf("%v is too wide for the roots of %v", r, a)
			}
			if square, e := enclosure.Mul(r, r); e == api.OK {
				if both, is, e := enclosure.Meet(square, a); both != a || !is || e != api.OK {
					t.Errorf("the square of %v is %v", r, square)
				}
			}
		}
	}
	if count < 200 {
		t.Error(count)
	}
	// the root of a number in the range lies in that of the range
	for _, q := range []api.Num{"0", "1/4", "1/3", "1", "2", "9/4", "3"} {
		for _, a := range []api.Range{between("0", "3"), between(q, q), between("0", q), between(q, "3")} {
			r, e := enclosure.Root(a, 6)
			if is, f := enclosure.Contains(r, made(surd.Make(of("1", q)))); !is || e != api.OK || f != api.OK {
				t.Errorf("the root of %s is not in %v", q, r)
			}
		}
	}
}

func TestP5_1Contains(t *testing.T) {
	for _, x := range []struct {
		a    api.Range
		s    api.Surd
		want bool
		e    api.Errno
	}{
		{between("1", "2"), of("1", "2"), true, api.OK}, {between("0", "1"), of("1", "2"), false, api.OK}, {between("3/2", "2"), of("1", "2"), false, api.OK}, {between("-3/2", "-7/5"), of("-1", "2"), true, api.OK}, {between("-7/5", "0"), of("-1", "2"), false, api.OK}, {between("-2", "-3/2"), of("-1", "2"), false, api.OK}, {between("-1", "2"), of("1", "2", "1", "3", "-1", "10"), true, api.OK}, {between("0", "2"), of("1", "2", "1", "3", "-1", "10"), false, api.OK},
		{between("1/2", "2"), of("1/2", "1"), true, api.OK}, {between("0", "1/2"), of("1/2", "1"), true, api.OK}, {between("1/2", "1/2"), of("1/2", "1"), true, api.OK}, {between("1/2", "1/2"), of("1/3", "1"), false, api.OK}, {between("17/12", "17/12"), of("1", "2"), false, api.OK},
		{between("0", "0"), nil, true, api.OK}, {between("0", "1"), nil, true, api.OK}, {between("-1", "0"), nil, true, api.OK}, {between("-1", "1"), nil, true, api.OK}, {between("1", "2"), nil, false, api.OK}, {between("-2", "-1"), nil, false, api.OK}, {between("0", "0"), of("1", "2"), false, api.OK},
		// ends of more than 60 digits are no surds; the High counts also for what is below the Low
		{between("0", num(nines(60))), of("1", "2"), true, api.OK}, {between("0", num(tenTo(60))), of("1", "2"), false, api.ErrArgument}, {between("2", num(tenTo(60))), of("1", "2"), false, api.ErrArgument}, {between(num("-", tenTo(60)), "0"), of("1", "2"), false, api.ErrArgument}, {between(num("-", nines(60)), "0"), of("-1", "2"), true, api.OK}, {between(num("1/", nines(60)), "2"), of("1", "2"), true, api.OK}, {between(num("1/", tenTo(60)), "2"), of("1", "2"), false, api.ErrArgument}, {between("0", num("1/", tenTo(60))), nil, false, api.ErrArgument}, {between(num(tenTo(60)), num(tenTo(60))), nil, false, api.ErrArgument},
		// 17 terms, and differences that are too long
		{between("0", "0"), primes(16, "1"), false, api.OK}, {between("0", "99"), primes(16, "1"), false, api.ErrLimit}, {between("-1", "0"), primes(16, "1"), false, api.ErrLimit}, {between("1", "2"), primes(15, "1"), false, api.OK}, {between("1", "99"), primes(15, "1"), true, api.OK},
		{between(num("1/", tenTo(59)), "1"), of("1/3", "1"), true, api.OK}, {between(num("1/", tenTo(59)), "1"), of("1/33", "1"), false, api.ErrLimit}, {between("0", num(nines(60))), of("-1", "1"), false, api.ErrLimit},
		// the error of the Low comes first
		{between(num(tenTo(60)), num(tenTo(61))), primes(16, "1"), false, api.ErrArgument}, {between("1", num(tenTo(60))), primes(16, "1"), false, api.ErrLimit}, {between(num("-", tenTo(60)), "1"), primes(16, "1"), false, api.ErrArgument},
		// what is too near
		{between("0", "1"), tiny()[1], false, api.OK}, {between("-1", "0"), tiny()[1], true, api.OK}, {between("0", "1"), tiny()[2], false, api.ErrLimit}, {between("-1", "0"), tiny()[2], false, api.ErrLimit}, {between("1", "2"), tiny()[2], false, api.OK}, {between("-1", "1"), tiny()[2], true, api.OK},
	} {
		if is, e := enclosure.Contains(x.a, x.s); is != x.want || e != x.e {
			t.Errorf("Contains(%v, %v): %v, %d, not %v, %d", x.a, x.s, is, e, x.want, x.e)
		}
	}
}

// An end that is compared with the surd, in this order, is decided where it
// would not be in the other one, and the other way round.
func TestP5_1ContainsOrder(t *testing.T) {
	for _, x := range []struct {
		s      api.Surd
		isLess bool
		e      api.Errno
	}{{of("1", "2"), true, api.OK}, {of("1", "2"), false, api.ErrLimit}, {of("2/7", "3"), true, api.OK}, {of("2/7", "3"), false, api.ErrLimit}} {
		count := floor(over(value(x.s), unit(64)))
		if x.isLess {
			count.Sub(count, big.NewInt(1))
		} else {
			count.Add(count, big.NewInt(1))
		}
		low := times(rat(count), unit(64))
		end := text(simplest(low, plus(low, unit(64))))
		r := between(end, "5")
		if !x.isLess {
			r = between("-5", end)
		}
		is, e := enclosure.Contains(r, x.s)
		_, f := surd.Compare(x.s, exact(end))
		if e != x.e || is != (e == api.OK) || (f == api.OK) == (e == api.OK) {
			t.Errorf("Contains(%v, %v): %v, %d, and %d the other way round", r, x.s, is, e, f)
		}
	}
}

func TestP5_1Separate(t *testing.T) {
	near := scaled(tiny()[0], num("1/", tenTo(10)))
	for _, x := range []struct {
		s, t api.Surd
		want int
		e    api.Errno
	}{
		{of("1", "2"), of("1", "3"), 1, api.OK}, {of("1", "2"), of("17/12", "1"), 3, api.OK}, {nil, of("3", "1"), 0, api.OK}, {of("1", "2"), of("3", "2"), 0, api.OK}, {of("-1", "2"), of("1", "2"), 0, api.OK}, {of("1", "1"), of("2", "1"), 0, api.OK}, {of("1", "1"), of("3/2", "1"), 1, api.OK}, {of("3/2", "1"), of("5/2", "1"), 1, api.OK}, {of("7/3", "1"), of("11/3", "1"), 1, api.OK}, {of("4/3", "1"), of("11/3", "1"), 0, api.OK}, {nil, of("1/2", "1"), 1, api.OK}, {nil, of("1/8", "1"), 1, api.OK}, {nil, of("1/16", "1"), 2, api.OK},
		{nil, of(num("1/", tenTo(19)), "1"), 19, api.OK}, {of("1/3", "1"), of(num(sevens(19), "/", tenTo(19)), "1"), 1, api.OK}, {of("1", "2", "1", "3"), of("1", "10"), 2, api.OK}, {of("1", "20402"), of("102", "2"), 0, api.OK}, {of("-7", "1", "5", "2"), nil, 2, api.OK},
		// equal ones, also with different terms
		{nil, nil, 0, api.ErrExists}, {of("1", "2"), of("1", "2"), 0, api.ErrExists}, {of("-3/2", "1"), of("-3/2", "1"), 0, api.ErrExists}, {of("1", "20402"), of("101", "2"), 0, api.ErrExists}, {of("1", "3", "1", "20402"), of("101", "2", "1", "3"), 0, api.ErrExists}, {primes(16, "1"), primes(16, "1"), 0, api.ErrExists}, {tiny()[2], tiny()[2], 0, api.ErrExists},
		// too near for 40 places, for a comparison, and for a decimal
		{nil, tiny()[0], 39, api.OK}, {nil, scaled(tiny()[0], "1/10"), 40, api.OK}, {nil, scaled(tiny()[0], "1/100"), 0, api.ErrLimit}, {nil, near, 0, api.ErrLimit}, {shifted(near, "1/3"), of("1/3", "1"), 0, api.ErrLimit}, {nil, tiny()[1], 0, api.ErrLimit}, {nil, tiny()[2], 0, api.ErrLimit}, {of("1", "13"), made(surd.Add(of("1", "13"), tiny()[2])), 0, api.ErrLimit},
		{shifted(tiny()[2], "1/2"), of("3", "1"), 0, api.OK}, {shifted(tiny()[2], "1/2"), of("2/3", "1"), 0, api.ErrLimit}, {of("2/3", "1"), shifted(tiny()[2], "1/2"), 0, api.ErrLimit}, {shifted(tiny()[2], "1/8"), of("2/3", "1"), 1, api.OK}, {shifted(tiny()[2], "1/8"), of("1/10", "1"), 2, api.OK}, {shifted(tiny()[2], "1/8"), of("1/9", "1"), 0, api.ErrLimit}, {shifted(tiny()[2], "1/8"), of("5/41", "1"), 0, api.ErrLimit},
		// 17 terms, in a comparison with each other, and with decimals
		{primes(16, "1"), of("1", "59"), 0, api.ErrLimit}, {primes(16, "1"), of("99", "1"), 0, api.ErrLimit}, {primes(16, "1"), primes(16, "2"), 0, api.ErrLimit}, {primes(15, "1"), primes(15, "2"), 0, api.OK}, {of(num(nines(20)), "2"), of(num(nines(20)), "3"), 0, api.OK},
	} {
		for _, y := range [2][2]api.Surd{{x.s, x.t}, {x.t, x.s}} {
			n, e := enclosure.Separate(y[0], y[1])
			if n != x.want || e != x.e {
				t.Errorf("Separate(%v, %v): %d, %d, not %d, %d", y[0], y[1], n, e, x.want, x.e)
			}
			if want, f := separated(y[0], y[1]); want != x.want || f != x.e {
				t.Errorf("%v and %v should be separated by %d, %d", y[0], y[1], want, f)
			}
		}
	}
}

func TestP5_6Order(t *testing.T) {
	list := shorts()
	r := random(3)
	counts := map[api.Errno]int{}
	for i, s := range list {
		// a second surd may be near to the first one
		others := []api.Surd{list[r.IntN(len(list))], list[r.IntN(len(list))], list[i]}
		if near, e := surd.Add(s, of(num("1/", tenTo(r.IntN(20))), "1")); e == api.OK {
			others = append(others, near)
		}
		if near, e := surd.Add(s, of(num("-1/", tenTo(r.IntN(20))), "7")); e == api.OK {
			others = append(others, near)
		}
		for _, u := range others {
			n, e := enclosure.Separate(s, u)
			want, f := separated(s, u)
			if n != want || e != f {
				t.Errorf("Separate(%v, %v): %d, %d, not %d, %d", s, u, n, e, want, f)
			}
			if counts[e]++; e == api.OK {
				checkOrder(t, s, u, n)
			}
		}
	}
	if counts[api.OK] < 200 || counts[api.ErrLimit] < 20 || counts[api.ErrExists] < 50 {
		t.Error(counts)
	}
}

// checkOrder tells an error if the ranges of two surds do not stand in their
// order, or do not touch with one place less.
func checkOrder(t *testing.T, s, u api.Surd, places int) {
	t.Helper()
	a, e := enclosure.Of(s, places)
	b, f := enclosure.Of(u, places)
	n, g := surd.Compare(s, u)
	if n > 0 {
		a, b = b, a
	}
	if first(e, f, g) != api.OK || n == 0 || parse(a.High).Cmp(parse(b.Low)) >= 0 {
		t.Errorf("%v and %v with %d places: %v, %v", s, u, places, a, b)
	}
	if places == 0 {
		return
	}
	a, e = enclosure.Of(s, places-1)
	b, f = enclosure.Of(u, places-1)
	if _, is, g := enclosure.Meet(a, b); !is || first(e, f, g) != api.OK {
		t.Errorf("%v and %v with %d places: %v, %v", s, u, places-1, a, b)
	}
}

func TestP5_4Arithmetic(t *testing.T) {
	list := []api.Surd{nil, of("1", "1"), of("-1", "1"), of("1/2", "1"), of("1", "2"), of("-1", "2"), of("1", "1", "-1", "2"), of("1", "20402"), of("2/3", "1", "-5/7", "3")}
	r := random(4)
	for range 30 {
		list = append(list, anySurd(r, 3, 3), anySurd(r, 2, 6))
	}
	tooLong := 0
	for _, s := range list {
		for _, u := range list {
			a, e := enclosure.Of(s, r.IntN(12))
			b, f := enclosure.Of(u, r.IntN(12))
			sum, g := enclosure.Add(a, b)
			product, h := enclosure.Mul(a, b)
			if first(e, f, g, h) != api.OK {
				t.Fatalf("%v and %v: %d, %d, %d, %d", s, u, e, f, g, h)
			}
			if is, e := enclosure.Contains(sum, made(surd.Add(s, u))); !is || e != api.OK {
				t.Errorf("the sum of %v and %v is not in %v: %d", s, u, sum, e)
			}
			if p, e := surd.Mul(s, u); e != api.OK || checkSurd(p) != api.OK {
				tooLong++
			} else if is, e := enclosure.Contains(product, p); !is || e != api.OK {
				t.Errorf("the product of %v and %v is not in %v: %d", s, u, product, e)
			}
			wide, e := enclosure.Width(sum)
			if want := plus(minus(parse(a.High), parse(a.Low)), minus(parse(b.High), parse(b.Low))); wide != text(want) || e != api.OK {
				t.Errorf("%v is %s wide", sum, wide)
			}
		}
	}
	if 2*tooLong > len(list)*len(list) {
		t.Error("too few products:", tooLong)
	}
}

func TestP5_7CommonParts(t *testing.T) {
	var list []api.Range
	for _, r := range someRanges() {
		if isWithin(90, r.Low) && isWithin(90, r.High) {
			list = append(list, r)
		}
	}
	for _, a := range list {
		for _, b := range list {
			both, is, e := enclosure.Meet(a, b)
			if other, isOther, f := enclosure.Meet(b, a); other != both || isOther != is || f != e || e != api.OK {
				t.Fatalf("%v and %v: %v, %v, %d; %v, %v, %d", a, b, both, is, e, other, isOther, f)
			}
			if isApart := parse(a.High).Cmp(parse(b.Low)) < 0 || parse(b.High).Cmp(parse(a.Low)) < 0; is == isApart {
				t.Fatalf("%v and %v: %v", a, b, is)
			}
			if !is {
				continue
			}
			for _, r := range [2]api.Range{a, b} {
				if again, is, e := enclosure.Meet(both, r); again != both || !is || e != api.OK {
					t.Fatalf("%v is not in %v", both, r)
				}
			}
		}
	}
}
