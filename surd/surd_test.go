package surd_test

import (
	"math/big"
	"math/rand/v2"
	"slices"
	"testing"

	"kingpost/api"
	"kingpost/surd"
)

// The results are compared with those of reference_test.go, and with each
// other as the promises say.

// free are Roots of which no two have a rational ratio.
func free() []api.Num {
	return []api.Num{"1", "2", "3", "5", "6", "7", "10", "11", "13", "14", "15", "17", "19", "101", "103", "10403", "214221", "99990001"}
}

// long40 is a normal Root of exactly 40 digits.
const long40 = "1000000000000000000000000000000000000003"

// anyCoef returns a number, not 0, with at most so many digits in its parts.
func anyCoef(r *rand.Rand, most int) api.Num {
	a := parse(num(digits(r, 1+r.IntN(most)), "/", digits(r, 1+r.IntN(most))))
	if r.IntN(3) == 0 {
		a.SetInt(a.Num())
	}
	if r.IntN(2) == 0 {
		a.Neg(a)
	}
	return text(a)
}

// digits returns n digits in which 0 and 9 are frequent.
func digits(r *rand.Rand, n int) string {
	out := []byte{byte('1' + r.IntN(9))}
	for len(out) < n {
		out = append(out, "0099"[r.IntN(4)], byte('0'+r.IntN(10)))
	}
	return string(out[:n])
}

// anySurd returns a surd with at most so many terms, and digits in the parts of
// their Coefs.
func anySurd(r *rand.Rand, terms, most int) api.Surd {
	roots := free()
	r.Shuffle(len(roots), func(i, k int) { roots[i], roots[k] = roots[k], roots[i] })
	var l []api.Term
	for _, n := range roots[:r.IntN(terms+1)] {
		l = append(l, api.Term{Coef: anyCoef(r, most), Root: n})
	}
	s, e := madeOf(l)
	if e != api.OK || check(s) != api.OK {
		panic("no surd")
	}
	return s
}

// surds returns surds of all kinds; the sums and products of any two of them
// are within the limits.
func surds() []api.Surd {
	out := []api.Surd{
		nil, of("1", "1"), of("-1", "1"), of("1/2", "1"), of("-7/3", "1"), of("1", "2"), of("-1", "2"), of("1", "3"), of("1", "1", "1", "2"), of("1", "1", "-1", "2"), of("-7", "1", "5", "2"), of("-8", "1", "5", "2"),
		of("1", "2", "1", "3"), of("1", "20402"), of("101", "2"), of("-1/101", "20402"), of("2", "21218"), of("206", "2"), of("1", "1", "1", "20402"), of("1", "1", "101", "2"), of("1", "10403"), of("3", "7", "-1/7", "30603"),
	}
	r := random(1)
	for range 40 {
		out = append(out, anySurd(r, 3, 2), anySurd(r, 2, 4))
	}
	return out
}

// result returns the surd that a function should have returned.
func result(t *testing.T) func(s api.Surd, e api.Errno) api.Surd {
	return func(s api.Surd, e api.Errno) api.Surd {
		t.Helper()
		if e != api.OK || check(s) != api.OK || surd.Check(s) != api.OK {
			t.Fatalf("result %v, error %d", s, e)
		}
		return s
	}
}

// areEqual tells if two surds have the same value: then the difference is
// empty.
func areEqual(t *testing.T, a, b api.Surd) bool {
	t.Helper()
	return len(result(t)(surd.Sub(a, b))) == 0
}

func compare(t *testing.T, a, b api.Surd) int {
	t.Helper()
	n, e := surd.Compare(a, b)
	if e != api.OK {
		t.Fatalf("Compare(%v, %v): error %d", a, b, e)
	}
	return n
}

// badTerms are terms with an error of their own, or with several: the first
// one counts. Behind a term 1 root 5 the Roots stand in their order.
func badTerms() []struct {
	t    api.Term
	want api.Errno
} {
	long, longer := num(nines(61)), num(nines(301))
	return []struct {
		t    api.Term
		want api.Errno
	}{
		{api.Term{Coef: "", Root: "6"}, api.ErrNumber}, {api.Term{Coef: "2/4", Root: "6"}, api.ErrNumber}, {api.Term{Coef: "-0", Root: "6"}, api.ErrNumber}, {api.Term{Coef: "1/1", Root: "6"}, api.ErrNumber},
		{api.Term{Coef: "1", Root: ""}, api.ErrNumber}, {api.Term{Coef: "1", Root: "06"}, api.ErrNumber}, {api.Term{Coef: "1", Root: "6/1"}, api.ErrNumber}, {api.Term{Coef: "1", Root: "x"}, api.ErrNumber},
		{api.Term{Coef: longer, Root: "6"}, api.ErrLimit}, {api.Term{Coef: "1", Root: longer}, api.ErrLimit}, {api.Term{Coef: "1/" + longer, Root: "6"}, api.ErrLimit},
		// the error of Coef comes before that of Root, and both before all others
		{api.Term{Coef: longer, Root: "x"}, api.ErrLimit}, {api.Term{Coef: "x", Root: longer}, api.ErrNumber}, {api.Term{Coef: "0", Root: "x"}, api.ErrNumber}, {api.Term{Coef: long, Root: "x"}, api.ErrNumber}, {api.Term{Coef: "0", Root: longer}, api.ErrLimit},
		{api.Term{Coef: "0", Root: "6"}, api.ErrZero}, {api.Term{Coef: "0", Root: "0"}, api.ErrZero}, {api.Term{Coef: "0", Root: "8"}, api.ErrZero}, {api.Term{Coef: "0", Root: num(sevens(41))}, api.ErrZero}, {api.Term{Coef: "0", Root: "5"}, api.ErrZero},
		{api.Term{Coef: long, Root: "6"}, api.ErrLimit}, {api.Term{Coef: "-" + long, Root: "6"}, api.ErrLimit}, {api.Term{Coef: "1/" + long, Root: "6"}, api.ErrLimit}, {api.Term{Coef: num("7/", tenTo(60)), Root: "6"}, api.ErrLimit},
		{api.Term{Coef: "1", Root: num(sevens(41))}, api.ErrLimit}, {api.Term{Coef: "1", Root: num("-", sevens(41))}, api.ErrLimit}, {api.Term{Coef: "1", Root: num(tenTo(40))}, api.ErrLimit}, {api.Term{Coef: "1", Root: num("1/", sevens(41))}, api.ErrLimit},
		{api.Term{Coef: long, Root: "8"}, api.ErrLimit}, {api.Term{Coef: long, Root: "1/2"}, api.ErrLimit}, {api.Term{Coef: long, Root: "2"}, api.ErrLimit},
		{api.Term{Coef: "1", Root: "8"}, api.ErrKind}, {api.Term{Coef: "1", Root: "9"}, api.ErrKind}, {api.Term{Coef: "1", Root: "1/2"}, api.ErrKind}, {api.Term{Coef: "1", Root: "13/2"}, api.ErrKind}, {api.Term{Coef: "1", Root: "0"}, api.ErrKind}, {api.Term{Coef: "1", Root: "-6"}, api.ErrKind}, {api.Term{Coef: "1", Root: "-1/6"}, api.ErrKind}, {api.Term{Coef: "1", Root: num("-", sevens(40))}, api.ErrKind},
		{api.Term{Coef: "1", Root: num(tenTo(39))}, api.ErrKind}, {api.Term{Coef: "1", Root: "10201"}, api.ErrKind}, {api.Term{Coef: "1", Root: "18818"}, api.ErrKind}, {api.Term{Coef: "1", Root: "104060401"}, api.ErrKind}, {api.Term{Coef: "1", Root: num("1/", sevens(40))}, api.ErrKind},
		{api.Term{Coef: "1", Root: "4"}, api.ErrKind}, {api.Term{Coef: "1", Root: "5/4"}, api.ErrKind},
		{api.Term{Coef: "1", Root: "3"}, api.ErrOrder}, {api.Term{Coef: "1", Root: "5"}, api.ErrOrder}, {api.Term{Coef: "-1", Root: "5"}, api.ErrOrder}, {api.Term{Coef: "1", Root: "1"}, api.ErrOrder},
		{api.Term{Coef: "1", Root: "51005"}, api.ErrExists}, {api.Term{Coef: "-1/101", Root: "53045"}, api.ErrExists},
	}
}

func TestP4_1Check(t *testing.T) {
	most := num(nines(60))
	for _, x := range []struct {
		s    api.Surd
		want api.Errno
	}{
		{nil, api.OK}, {api.Surd{}, api.OK}, {of("1", "1"), api.OK}, {of("-1", "1"), api.OK}, {of("1/2", "2"), api.OK}, {of("1", "1", "-2/3", "2"), api.OK}, {of("1", "20402"), api.OK}, {of("1", "9", "1", "10"), api.ErrKind}, {of("1", "9", "1", ""), api.ErrKind},
		{of(most, "1"), api.OK}, {of("-"+most, "1"), api.OK}, {of("1/"+most, "1"), api.OK}, {of("-"+most+num("/", tenTo(59)), "1"), api.OK},
		{of("1", num(sevens(40))), api.OK}, {of("1", long40), api.OK}, {of("1", "1", most, num(sevens(40))), api.OK},
		// Roots are compared as numbers
		{of("1", "7", "1", "10"), api.OK}, {of("1", "10", "1", "7"), api.ErrOrder}, {of("1", "2", "1", "103", "1", "30603"), api.OK}, {of("1", "101", "1", "30"), api.ErrOrder},
		{of("1", "2", "1", "3", "1", "2"), api.ErrOrder}, {of("1", "3", "1", "7", "1", "5"), api.ErrOrder}, {of("1", "1", "1", "3", "1", "2", "1", "5"), api.ErrOrder}, {of("1", "3", "1", "2", "x", "5"), api.ErrOrder}, {of("1", "20402", "1", "2"), api.ErrOrder},
		// 20402 is 2 times 101^2, 21218 is 2 times 103^2
		{of("1", "2", "1", "20402"), api.ErrExists}, {of("1", "20402", "1", "21218"), api.ErrExists}, {of("1", "1", "1", "2", "1", "3", "-5", "20402"), api.ErrExists}, {of("1", "1", "1", "20402"), api.OK}, {of("1", "3", "1", "20402"), api.OK}, {of("1", "101", "1", "1030301"), api.ErrExists}, {of("1", "2", "1", "20402", "x", "5"), api.ErrExists},
		{of("1", "2", "1", num(times(whole(2), rat(power(100000000000000003, 2))).RatString())), api.ErrExists},
		{of("1", "2", "1", num(times(whole(3), rat(power(100000000000000003, 2))).RatString())), api.OK},
	} {
		if e := surd.Check(x.s); e != x.want || check(x.s) != x.want {
			t.Errorf("Check(%v): %d, not %d", x.s, e, x.want)
		}
	}
	for _, x := range badTerms() {
		for _, behind := range []api.Surd{nil, of("1", "7"), of("0", "1"), of("x", "1"), of("1", "1/2")} {
			s := slices.Concat(of("1", "5"), api.Surd{x.t}, behind)
			if e := surd.Check(s); e != x.want || check(s) != x.want {
				t.Errorf("Check(%v): %d, not %d", s, e, x.want)
			}
		}
	}
}

// primes returns the surd of the roots of the first n primes.
func primes(n int) api.Surd {
	var s api.Surd
	for p := int64(2); len(s) < n; p++ {
		if isPrime(p) {
			s = append(s, api.Term{Coef: "1", Root: text(whole(p))})
		}
	}
	return s
}

func TestP4_1NumbersOfTerms(t *testing.T) {
	if e := surd.Check(primes(16)); e != api.OK {
		t.Error("16 terms:", e)
	}
	for _, s := range []api.Surd{primes(17), primes(400), slices.Repeat(of("x", "8"), 17), make(api.Surd, 17)} {
		if e := surd.Check(s); e != api.ErrLimit {
			t.Errorf("%d terms: %d", len(s), e)
		}
	}
	if e := surd.Check(make(api.Surd, 16)); e != api.ErrNumber {
		t.Error("16 empty terms:", e)
	}
	for _, x := range []struct {
		l    []api.Term
		want api.Surd
		e    api.Errno
	}{
		{slices.Repeat(of("1", "8"), 256), of("512", "2"), api.OK}, {slices.Repeat(of("1", "8"), 257), nil, api.ErrLimit}, {slices.Repeat(of("0", "8"), 257), nil, api.ErrLimit},
		{slices.Repeat(of("x", "8"), 256), nil, api.ErrNumber}, {slices.Repeat(of("x", "8"), 257), nil, api.ErrLimit}, {slices.Repeat(of("1", "-8"), 257), nil, api.ErrLimit},
		{primes(16), primes(16), api.OK}, {primes(17), nil, api.ErrLimit}, {primes(256), nil, api.ErrLimit},
		// more sums than a surd can have, of which some, or all, are 0
		{slices.Concat(primes(17), of("-1", "59")), primes(16), api.OK}, {slices.Concat(primes(17), of("-1/2", "8")), primes(17)[1:], api.OK}, {slices.Concat(primes(128), turned(primes(128))), nil, api.OK},
	} {
		if s, e := surd.Make(x.l); !slices.Equal(s, x.want) || e != x.e {
			t.Errorf("%d terms: %v, %d, not %v, %d", len(x.l), s, e, x.want, x.e)
		}
	}
	if s, e := surd.Add(primes(16), of("1", "59")); len(s) != 0 || e != api.ErrLimit {
		t.Error("sum of 17 terms:", s, e)
	}
	if s, e := surd.Sub(primes(16), of("1", "59")); len(s) != 0 || e != api.ErrLimit {
		t.Error("difference of 17 terms:", s, e)
	}
	if n, e := surd.Compare(primes(16), of("1", "59")); n != 0 || e != api.ErrLimit {
		t.Error("comparison of 17 terms:", n, e)
	}
	if s, e := surd.Mul(primes(6), primes(6)); len(s) != 16 || e != api.OK {
		t.Error("product of 16 terms:", s, e)
	}
	if s, e := surd.Mul(primes(7), primes(7)); len(s) != 0 || e != api.ErrLimit {
		t.Error("product of 22 terms:", s, e)
	}
}

// turned returns the terms with the opposite Coefs.
func turned(l []api.Term) []api.Term {
	var out []api.Term
	for _, t := range l {
		out = append(out, api.Term{Coef: text(opposite(parse(t.Coef))), Root: t.Root})
	}
	return out
}

func TestP4_1Make(t *testing.T) {
	most := num(nines(60))
	for _, x := range []struct {
		l    []api.Term
		want api.Surd
		e    api.Errno
	}{
		{nil, nil, api.OK}, {of("1", "8"), of("2", "2"), api.OK}, {of("1", "1/2"), of("1/2", "2"), api.OK}, {of("3", "25/16"), of("15/4", "1"), api.OK}, {of("-2/3", "12/25"), of("-4/15", "3"), api.OK}, {of("1", "3", "1", "2", "5", "12"), of("1", "2", "11", "3"), api.OK},
		{of("1", "7", "2", "10", "3", "1"), of("3", "1", "1", "7", "2", "10"), api.OK},
		{of("1", "2", "-1", "2"), nil, api.OK}, {of("1", "8", "-2", "2"), nil, api.OK}, {of("1", "2", "1", "3", "-1", "2"), of("1", "3"), api.OK}, {of("1", "4", "-2", "1"), nil, api.OK},
		// 0 as Coef or as Root is nothing, whatever the other number is
		{of("0", "2", "5", "0"), nil, api.OK}, {of("0", "0"), nil, api.OK}, {of("0", num(sevens(300))), nil, api.OK}, {of(num(nines(300)), "0"), nil, api.OK}, {of("0", "2", "1", "20402"), of("1", "20402"), api.OK}, {of("1", "20402", "0", "2"), of("1", "20402"), api.OK},
		// 20402 = 2 * 101^2, 21218 = 2 * 103^2: the least Root that occurs, even if it cancels
		{of("1", "20402"), of("1", "20402"), api.OK}, {of("1", "20402", "1", "2"), of("102", "2"), api.OK}, {of("1", "2", "1", "20402"), of("102", "2"), api.OK}, {of("1", "20402", "-101", "2"), nil, api.OK},
		{of("1", "20402", "1", "2", "-1", "2"), of("101", "2"), api.OK}, {of("1", "2", "-1", "2", "1", "20402"), of("101", "2"), api.OK}, {of("1", "2", "1", "20402", "-1", "2"), of("101", "2"), api.OK}, {of("1", "2", "-1", "2", "1", "20402", "1", "3"), of("101", "2", "1", "3"), api.OK},
		{of("1", "20402", "1", "21218"), of("204/101", "20402"), api.OK}, {of("1", "21218", "1", "20402"), of("204/101", "20402"), api.OK}, {of("103", "20402", "-101", "21218"), nil, api.OK}, {of("1", "21218", "1", "20402", "-1", "20402"), of("103/101", "20402"), api.OK}, {of("1", "21218", "1", "20402", "1", "8"), of("206", "2"), api.OK},
		{of("1", "10201", "1", "1"), of("102", "1"), api.OK}, {of("1", "10201/2"), of("1/2", "20402"), api.OK}, {of("1", "10201/2", "1", "1/2"), of("51", "2"), api.OK},
		// limits of surds
		{of(most, "2"), of(most, "2"), api.OK}, {of(most, "2", "1", "2"), nil, api.ErrLimit}, {of(most, "2", "-1", "2"), of(num(nines(59), "8"), "2"), api.OK}, {of(num(tenTo(60)), "2"), nil, api.ErrLimit}, {of(num(tenTo(60)), "2", "-1", "2"), of(most, "2"), api.OK},
		{of("1/"+most, "2"), of("1/"+most, "2"), api.OK}, {of(num("1/", tenTo(60)), "2"), nil, api.ErrLimit}, {of(num("-", tenTo(60)), "2"), nil, api.ErrLimit}, {of(num(tenTo(60)), "1/100"), of(num(tenTo(59)), "1"), api.OK},
		{of("1", num(sevens(40))), of("1", num(sevens(40))), api.OK}, {of("1", num(sevens(41))), nil, api.ErrLimit}, {of("1", num(sevens(41)), "-1", num(sevens(41))), nil, api.OK}, {of("1", "2", num(nines(99)), num(sevens(41)), num("-", nines(99)), num(sevens(41))), of("1", "2"), api.OK},
		{of("1", num(tenTo(60))), of(num(tenTo(30)), "1"), api.OK}, {of("1", num(tenTo(60), "/3")), of(num(tenTo(30), "/3"), "3"), api.OK},
		// limits of layer 3
		{of("1", num(tenTo(88))), of(num(tenTo(44)), "1"), api.OK}, {of("1", num(tenTo(90))), nil, api.ErrLimit}, {of("1", num("1/", tenTo(90))), nil, api.ErrLimit}, {of("0", num(tenTo(90))), nil, api.OK}, {of("1", num(tenTo(90)), "-1", num(tenTo(90))), nil, api.ErrLimit},
		{of("1", num(sevens(89), "/2"), "-1", num(sevens(89), "/2")), nil, api.OK}, {of("1", num(nines(89), "7/2"), "-1", num(nines(89), "7/2")), nil, api.ErrLimit}, {of("1", num(sevens(90)), "-1", num(sevens(90))), nil, api.OK},
		// limits of layer 2
		{of(num(nines(300)), "2", num("-", nines(300)), "2"), nil, api.OK}, {of(num(nines(300)), "8", num("-", nines(300)), "8"), nil, api.ErrLimit}, {of(num(nines(300)), "2", "1", "2", num("-", nines(300)), "2"), nil, api.ErrLimit}, {of(num(nines(300)), "2", num("-", nines(300)), "2", "1", "2"), of("1", "2"), api.OK},
		{of(num("1/", tenTo(299)), "1/4", num("-1/", tenTo(299)), "1/4"), nil, api.ErrLimit}, {of(num("1/", tenTo(149)), "2", num("-1/", tenTo(149)), "2"), nil, api.OK}, {of(num("1/", tenTo(150)), "2", num("-1/", tenTo(150)), "2"), nil, api.ErrLimit},
		// only the term with the greater Root is converted
		{of(num(nines(299)), "2", "1", "20402", num("-", nines(299)), "2"), of("101", "2"), api.OK}, {of(num(nines(299)), "20402", "1", "2", num("-", nines(299)), "20402"), nil, api.ErrLimit}, {of(num(nines(299)), "20402", num("-", nines(299)), "20402", "1", "2"), of("1", "2"), api.OK}, {of(num(nines(297)), "20402", "1", "2", num("-", nines(297)), "20402"), of("1", "2"), api.OK}, {of(num(nines(298)), "20402", "1", "2", num("-", nines(298)), "20402"), nil, api.ErrLimit},
	} {
		s, e := surd.Make(x.l)
		if !slices.Equal(s, x.want) || e != x.e {
			t.Errorf("Make(%v): %v, %d, not %v, %d", x.l, s, e, x.want, x.e)
		}
		if want, wantE := madeOf(x.l); !slices.Equal(x.want, want) || x.e != wantE {
			t.Errorf("%v should be %v, %d", x.l, want, wantE)
		}
	}
}

func TestP4_1MakeErrors(t *testing.T) {
	longer := num(nines(301))
	for _, x := range []struct {
		l    []api.Term
		want api.Errno
	}{
		{of("", "2"), api.ErrNumber}, {of("1", "x"), api.ErrNumber}, {of("2/4", "2"), api.ErrNumber}, {of("1", "2/4"), api.ErrNumber}, {of("1", "4/1"), api.ErrNumber}, {of(longer, "2"), api.ErrLimit}, {of("1", longer), api.ErrLimit}, {of("1", "-2"), api.ErrRange}, {of("1", "-1/2"), api.ErrRange}, {of("0", "-2"), api.ErrRange}, {of("0", "x"), api.ErrNumber},
		{of("x", longer), api.ErrNumber}, {of(longer, "x"), api.ErrLimit}, {of("x", "-2"), api.ErrNumber}, {of(longer, "-2"), api.ErrLimit}, {of("1", num("-", nines(301))), api.ErrLimit}, {of("1", num("-", nines(300))), api.ErrRange},
		// the first term that has an error
		{of("1", "-2", "x", "2"), api.ErrRange}, {of("x", "2", "1", "-2"), api.ErrNumber}, {of(longer, "2", "x", "2"), api.ErrLimit}, {of("1", "2", "0", "0", "1", "-2"), api.ErrRange},
		// what is too long when it is added comes behind all of them
		{of(num(tenTo(60)), "2", "1", "-2"), api.ErrRange}, {of("1", num(nines(91)), "x", "2"), api.ErrNumber}, {of(num(nines(300)), "4", "1", "x"), api.ErrNumber}, {of("1", num(nines(91)), "1", "2"), api.ErrLimit},
	} {
		s, e := surd.Make(x.l)
		_, want := madeOf(x.l)
		if len(s) != 0 || e != x.want || want != x.want {
			t.Errorf("Make(%v): %v, %d, not %d", x.l, s, e, x.want)
		}
	}
}

// anyTerms returns terms of few groups, with numbers of all lengths: many
// cancel, and many of their sums are too long.
func anyTerms(r *rand.Rand) []api.Term {
	roots := []api.Num{"2", "8", "1/2", "20402", "10201/2", "21218", "2/10609", "3", "12", "3/4", "30603", "1", "9", "1/16", "10201", "0", num(times(whole(5), rat(power(103, 20))).RatString()), "1/5", num(sevens(40)), num(sevens(41)), num("1/", sevens(41)), num(sevens(89), "/", tenTo(80))}
	lengths := []int{1, 1, 2, 5, 30, 59, 60, 61, 100, 145, 150, 290, 300}
	most := lengths[r.IntN(len(lengths))]
	var l []api.Term
	for range r.IntN(7) {
		t := api.Term{Coef: anyCoef(r, most), Root: roots[r.IntN(len(roots))]}
		l = append(l, t)
		if r.IntN(2) == 0 {
			l = append(l, turned([]api.Term{t})...)
		}
	}
	r.Shuffle(len(l), func(i, k int) { l[i], l[k] = l[k], l[i] })
	return l
}

func TestP4_1MakeOfManyTerms(t *testing.T) {
	r := random(2)
	counts := map[api.Errno]int{}
	for range 4000 {
		l := anyTerms(r)
		s, e := surd.Make(l)
		want, wantE := madeOf(l)
		if !slices.Equal(s, want) || e != wantE {
			t.Fatalf("Make(%v): %v, %d, not %v, %d", l, s, e, want, wantE)
		}
		if counts[e]++; e == api.OK && (check(s) != api.OK || !isNear(value(s), value(l))) {
			t.Fatalf("Make(%v): %v", l, s)
		}
	}
	if counts[api.OK] < 500 || counts[api.ErrLimit] < 500 {
		t.Error(counts)
	}
}

func TestP4_1ArgumentErrors(t *testing.T) {
	good := of("1", "1", "-1/2", "2")
	bad := []api.Surd{primes(17)}
	for _, x := range badTerms() {
		bad = append(bad, slices.Concat(of("1", "5"), api.Surd{x.t}))
	}
	for _, s := range bad {
		for _, x := range []struct{ a, b api.Surd }{{s, good}, {good, s}, {s, s}, {s, nil}, {nil, s}} {
			for i, f := range []func(a, b api.Surd) (api.Surd, api.Errno){surd.Add, surd.Sub, surd.Mul} {
				if c, e := f(x.a, x.b); len(c) != 0 || e != api.ErrArgument {
					t.Errorf("function %d of %v and %v: %v, %d", i, x.a, x.b, c, e)
				}
			}
			if n, e := surd.Compare(x.a, x.b); n != 0 || e != api.ErrArgument {
				t.Errorf("Compare(%v, %v): %d, %d", x.a, x.b, n, e)
			}
		}
		for _, c := range []api.Num{"1", "0", "", "2/4", num(nines(301))} {
			if c, e := surd.Scale(s, c); len(c) != 0 || e != api.ErrArgument {
				t.Errorf("Scale(%v): %v, %d", s, c, e)
			}
		}
		if n, e := surd.Sign(s); n != 0 || e != api.ErrArgument {
			t.Errorf("Sign(%v): %d, %d", s, n, e)
		}
		if n, is, e := surd.Value(s); n != "" || is || e != api.ErrArgument {
			t.Errorf("Value(%v): %s, %v, %d", s, n, is, e)
		}
	}
}

func TestP4_1Scale(t *testing.T) {
	most := num(nines(60))
	for _, x := range []struct {
		s    api.Surd
		c    api.Num
		want api.Surd
		e    api.Errno
	}{
		{nil, "5", nil, api.OK}, {nil, "x", nil, api.ErrNumber}, {nil, num(nines(301)), nil, api.ErrLimit}, {nil, num(nines(300)), nil, api.OK}, {of("1", "2"), "", nil, api.ErrNumber}, {of("1", "2"), "3/", nil, api.ErrNumber}, {of("1", "2"), "2/4", nil, api.ErrNumber}, {of("1", "2"), num(nines(301)), nil, api.ErrLimit},
		{of("1", "2", "1", "3"), "-3/2", of("-3/2", "2", "-3/2", "3"), api.OK}, {of("1", "2", "1", "3"), "0", nil, api.OK}, {of("1", "2", "1", "3"), "1", of("1", "2", "1", "3"), api.OK}, {of("-4/3", "1", "9/2", "20402"), "1/6", of("-2/9", "1", "3/4", "20402"), api.OK},
		{of(most, "2"), "1", of(most, "2"), api.OK}, {of(most, "2"), "-1", of("-"+most, "2"), api.OK}, {of(most, "2"), "2", nil, api.ErrLimit}, {of("1/"+most, "2"), "1/2", nil, api.ErrLimit}, {of("1/"+most, "2"), most, of("1", "2"), api.OK},
		// products that are too long for surds, and for layer 2
		{of(num("1/", tenTo(59)), "2"), num(tenTo(119)), nil, api.ErrLimit}, {of(num("1/", tenTo(59)), "2"), num(tenTo(118)), of(num(tenTo(59)), "2"), api.OK}, {of("2", "2"), num(tenTo(299)), nil, api.ErrLimit}, {of(num("10/", nines(60)), "2"), num(tenTo(299)), nil, api.ErrLimit}, {of("1/3", "2"), num("1/", tenTo(299)), nil, api.ErrLimit}, {of("1/3", "2"), num("1/", nines(299)), nil, api.ErrLimit}, {of("1/"+most, "2"), num(tenTo(240)), nil, api.ErrLimit},
		{of("1", "1", "1/"+most, "2"), num(tenTo(60)), nil, api.ErrLimit},
	} {
		if s, e := surd.Scale(x.s, x.c); !slices.Equal(s, x.want) || e != x.e {
			t.Errorf("Scale(%v, %s): %v, %d, not %v, %d", x.s, x.c, s, e, x.want, x.e)
		}
	}
}

// The sum, the difference and the product of surds are what Make returns for
// these terms.
func TestP4_1TermsOfResults(t *testing.T) {
	r := random(3)
	counts := map[api.Errno]int{}
	for range 1000 {
		most := []int{1, 3, 15, 29, 31, 60}[r.IntN(6)]
		a, b := anySurd(r, 4, most), anySurd(r, 4, most)
		if r.IntN(4) == 0 {
			b = a
		}
		var products []api.Term
		for _, x := range a {
			for _, y := range b {
				products = append(products, api.Term{Coef: text(times(parse(x.Coef), parse(y.Coef))), Root: text(times(parse(x.Root), parse(y.Root)))})
			}
		}
		for i, x := range []struct {
			f func(a, b api.Surd) (api.Surd, api.Errno)
			l []api.Term
		}{{surd.Add, slices.Concat(a, b)}, {surd.Sub, slices.Concat(a, turned(b))}, {surd.Mul, products}} {
			c, e := x.f(a, b)
			want, wantE := madeOf(x.l)
			if !slices.Equal(c, want) || e != wantE {
				t.Fatalf("function %d of %v and %v: %v, %d, not %v, %d", i, a, b, c, e, want, wantE)
			}
			if counts[e]++; e == api.OK && !isNear(value(c), value(x.l)) {
				t.Fatalf("function %d of %v and %v: %v", i, a, b, c)
			}
		}
	}
	if counts[api.OK] < 1000 || counts[api.ErrLimit] < 100 {
		t.Error(counts)
	}
}

// full returns surds with numbers that are as long as they may be.
func full() []api.Surd {
	return []api.Surd{
		of(num(nines(60)), "1"), of(num("-", nines(60)), "2"), of(num("1/", nines(60)), "3"), of(num(tenTo(59), "/", nines(60)), long40), of("1", num(sevens(40))), of("1", "2", num("1/", nines(60)), num(sevens(40))),
		primes(16), turned(primes(16)), of(num("1/", tenTo(59)), "1", num("1/", tenTo(59)), "2"), of("1", "2", "1", "3", "1", "10403", num(nines(60)), num(sevens(40))),
	}
}

func TestP4_1FullSurds(t *testing.T) {
	for _, a := range full() {
		if e := surd.Check(a); e != api.OK {
			t.Errorf("Check(%v): %d", a, e)
		}
		for _, b := range full() {
			want, wantE := madeOf(slices.Concat(a, b))
			if c, e := surd.Add(a, b); !slices.Equal(c, want) || e != wantE {
				t.Errorf("Add(%v, %v): %v, %d, not %v, %d", a, b, c, e, want, wantE)
			}
			d, wantE := madeOf(slices.Concat(a, turned(b)))
			order := 0
			if wantE == api.OK {
				order, wantE = sign(d)
			}
			if n, e := surd.Compare(a, b); n != order || e != wantE {
				t.Errorf("Compare(%v, %v): %d, %d, not %d, %d", a, b, n, e, order, wantE)
			}
		}
	}
	// 40 digits times 40 digits are within the limits of layer 3
	if c, e := surd.Mul(of("1", num(sevens(40))), of("2", num(sevens(40)))); !slices.Equal(c, of(num(times(whole(2), parse(num(sevens(40)))).RatString()), "1")) || e != api.OK {
		t.Error("product of long Roots:", c, e)
	}
	if c, e := surd.Mul(of("1", num(sevens(40))), of("1", long40)); len(c) != 0 || e != api.ErrLimit {
		t.Error("product of different long Roots:", c, e)
	}
	if c, e := surd.Mul(of(num(nines(60)), "1"), of(num(nines(60)), "1")); len(c) != 0 || e != api.ErrLimit {
		t.Error("product of long Coefs:", c, e)
	}
	if c, e := surd.Mul(of(num(nines(60)), "1"), of(num("1/", nines(60)), "3")); !slices.Equal(c, of("1", "3")) || e != api.OK {
		t.Error("product of long Coefs that cancel:", c, e)
	}
}

// Results are new memory: what happens to them does not change arguments.
func TestP4_1Memory(t *testing.T) {
	for i, f := range []func(s api.Surd) api.Surd{
		func(s api.Surd) api.Surd { return result(t)(surd.Make(s)) },
		func(s api.Surd) api.Surd { return result(t)(surd.Add(s, nil)) },
		func(s api.Surd) api.Surd { return result(t)(surd.Add(nil, s)) },
		func(s api.Surd) api.Surd { return result(t)(surd.Sub(s, nil)) },
		func(s api.Surd) api.Surd { return result(t)(surd.Mul(s, of("1", "1"))) },
		func(s api.Surd) api.Surd { return result(t)(surd.Mul(of("1", "1"), s)) },
		func(s api.Surd) api.Surd { return result(t)(surd.Scale(s, "1")) },
	} {
		s := append(make(api.Surd, 0, 8), of("1/2", "2", "3", "7")...)
		got := f(s)
		if !slices.Equal(got, s) {
			t.Errorf("function %d: %v", i, got)
		}
		got[0].Coef, got = "5", append(got, api.Term{Coef: "7", Root: "11"})
		if !slices.Equal(s, of("1/2", "2", "3", "7")) || s[:3][2] != (api.Term{}) {
			t.Errorf("function %d: %v changed with %v", i, s[:3], got)
		}
	}
	l := of("1", "8", "0", "3", "5", "1", "-5", "1", "1", "1/2")
	result(t)(surd.Make(l))
	if !slices.Equal(l, of("1", "8", "0", "3", "5", "1", "-5", "1", "1", "1/2")) {
		t.Error("Make changed its argument:", l)
	}
}

func TestP4_2Sums(t *testing.T) {
	for _, x := range []struct{ a, b, sum, difference api.Surd }{
		{of("1", "2"), of("2", "2"), of("3", "2"), of("-1", "2")}, {of("1", "2"), of("1", "3"), of("1", "2", "1", "3"), of("1", "2", "-1", "3")}, {of("1", "3"), of("1", "2"), of("1", "2", "1", "3"), of("-1", "2", "1", "3")},
		{of("1/2", "1", "1", "5"), of("1/3", "1", "-1", "5"), of("5/6", "1"), of("1/6", "1", "2", "5")}, {of("1", "20402"), of("1", "2"), of("102", "2"), of("100", "2")}, {of("1", "2"), of("1", "20402"), of("102", "2"), of("-100", "2")}, {of("1", "20402"), of("1", "21218"), of("204/101", "20402"), of("-2/101", "20402")},
		{nil, of("1", "7"), of("1", "7"), of("-1", "7")}, {of("1", "7"), nil, of("1", "7"), of("1", "7")}, {nil, nil, nil, nil}, {of("1", "20402"), of("101", "2"), of("202", "2"), nil}, {of("1", "20402", "1", "99990001"), of("101", "2", "1", "3"), of("202", "2", "1", "3", "1", "99990001"), of("-1", "3", "1", "99990001")},
	} {
		if s := result(t)(surd.Add(x.a, x.b)); !slices.Equal(s, x.sum) {
			t.Errorf("Add(%v, %v): %v", x.a, x.b, s)
		}
		if s := result(t)(surd.Sub(x.a, x.b)); !slices.Equal(s, x.difference) {
			t.Errorf("Sub(%v, %v): %v", x.a, x.b, s)
		}
	}
}

func TestP4_2OrderOfSums(t *testing.T) {
	list := surds()
	r := random(4)
	for i, a := range list {
		if d, e := surd.Sub(a, a); len(d) != 0 || e != api.OK {
			t.Errorf("%v less itself: %v, %d", a, d, e)
		}
		for _, b := range list[:i] {
			c := list[r.IntN(len(list))]
			sum, other := result(t)(surd.Add(a, b)), result(t)(surd.Add(b, a))
			if !areEqual(t, sum, other) || !areEqual(t, result(t)(surd.Sub(sum, b)), a) {
				t.Fatalf("%v and %v: %v, %v", a, b, sum, other)
			}
			left, right := result(t)(surd.Add(sum, c)), result(t)(surd.Add(a, result(t)(surd.Add(b, c))))
			if !areEqual(t, left, right) || !isNear(value(left), value(right)) {
				t.Fatalf("%v, %v and %v: %v, %v", a, b, c, left, right)
			}
		}
	}
}

func TestP4_2OrderOfTerms(t *testing.T) {
	r := random(5)
	for range 300 {
		var l []api.Term
		for range 1 + r.IntN(12) {
			roots := []api.Num{"1", "2", "8", "20402", "1/2", "3", "27", "10201/2", "21218"}
			l = append(l, api.Term{Coef: anyCoef(r, 1), Root: roots[r.IntN(len(roots))]})
		}
		before := result(t)(surd.Make(l))
		r.Shuffle(len(l), func(i, k int) { l[i], l[k] = l[k], l[i] })
		if after := result(t)(surd.Make(l)); !slices.Equal(before, after) {
			t.Fatalf("%v: %v, %v", l, before, after)
		}
	}
}

func TestP4_3Products(t *testing.T) {
	for _, x := range []struct{ a, b, want api.Surd }{
		{of("1", "2"), of("1", "3"), of("1", "6")}, {of("1", "2"), of("2", "2"), of("4", "1")}, {of("1", "6"), of("1", "10"), of("2", "15")}, {of("1", "2", "1", "3"), of("1", "2", "1", "3"), of("5", "1", "2", "6")}, {of("1/2", "1", "-1/3", "5"), of("6", "3"), of("3", "3", "-2", "15")},
		{of("1", "20402"), of("1", "2"), of("202", "1")}, {of("1", "20402"), of("1", "3"), of("1", "61206")}, {of("1", "3", "1", "20402"), of("101", "2"), of("20402", "1", "101", "6")}, {nil, of("1", "2"), nil}, {of("1", "2"), nil, nil}, {nil, nil, nil}, {of("-1", "1"), of("1", "2", "-3", "3"), of("-1", "2", "3", "3")}, {of("1", "2", "1", "6"), of("-1", "1", "1", "3"), of("2", "2")},
	} {
		if p := result(t)(surd.Mul(x.a, x.b)); !slices.Equal(p, x.want) {
			t.Errorf("Mul(%v, %v): %v, not %v", x.a, x.b, p, x.want)
		}
	}
}

func TestP4_3OrderOfProducts(t *testing.T) {
	list := surds()
	r := random(6)
	for i, a := range list {
		for _, b := range list[:i] {
			c := list[r.IntN(len(list))]
			c = c[:min(2, len(c))]
			left, right := result(t)(surd.Mul(a, b)), result(t)(surd.Mul(b, a))
			if !areEqual(t, left, right) {
				t.Fatalf("%v times %v: %v, %v", a, b, left, right)
			}
			whole, part, other := result(t)(surd.Mul(result(t)(surd.Add(a, b)), c)), result(t)(surd.Mul(a, c)), result(t)(surd.Mul(b, c))
			if sum := result(t)(surd.Add(part, other)); !areEqual(t, whole, sum) {
				t.Fatalf("%v and %v, times %v: %v, %v", a, b, c, whole, sum)
			}
			want := value(a)
			if want.Mul(want, value(b)); !isNear(value(left), want) {
				t.Fatalf("%v times %v: %v", a, b, left)
			}
		}
		for _, c := range []api.Num{"-7/3", "1/2", "5", "0", "-1"} {
			if x, y := result(t)(surd.Scale(a, c)), result(t)(surd.Mul(a, result(t)(surd.Make(of(c, "1"))))); !areEqual(t, x, y) {
				t.Fatalf("%v times %s: %v, %v", a, c, x, y)
			}
		}
	}
}

func TestP4_4Signs(t *testing.T) {
	for _, x := range []struct {
		s    api.Surd
		want int
		e    api.Errno
	}{
		{nil, 0, api.OK}, {of("-1/7", "1"), -1, api.OK}, {of("1/7", "1"), 1, api.OK}, {of("1", "2"), 1, api.OK}, {of("-1", "2"), -1, api.OK}, {of("1", "2", "1", "3"), 1, api.OK}, {of("-7", "1", "5", "2"), 1, api.OK}, {of("-8", "1", "5", "2"), -1, api.OK},
		// 99^2 = 9801, 2 * 70^2 = 9800
		{of("-99", "1", "70", "2"), -1, api.OK}, {of("99", "1", "-70", "2"), 1, api.OK}, {of("1", "2", "1", "3", "-1", "10"), -1, api.OK}, {of("1/62", "1", "1", "2", "1", "3", "-1", "10"), 1, api.OK},
		{of(num("1/", nines(60)), "1"), 1, api.OK}, {of(num("-1/", nines(60)), "1"), -1, api.OK}, {of(num("-1/", nines(60)), "2"), -1, api.OK}, {of(num("-", nines(60)), num(sevens(40))), -1, api.OK}, {primes(16), 1, api.OK}, {turned(primes(16)), -1, api.OK},
		{of("1", "8"), 0, api.ErrArgument}, {of("0", "2"), 0, api.ErrArgument},
	} {
		if n, e := surd.Sign(x.s); n != x.want || e != x.e {
			t.Errorf("Sign(%v): %d, %d, not %d, %d", x.s, n, e, x.want, x.e)
		}
	}
	r := random(7)
	for i := range 2000 {
		s := anySurd(r, 1+i%16, []int{1, 9, 20, 60}[r.IntN(4)])
		want, wantE := sign(s)
		if n, e := surd.Sign(s); n != want || e != wantE || e == api.OK && n != value(s).Sign() {
			t.Fatalf("Sign(%v): %d, %d, not %d, %d", s, n, e, want, wantE)
		}
	}
}

func TestP4_4SignsOfProducts(t *testing.T) {
	list := surds()
	for i, a := range list {
		x, e := surd.Sign(a)
		if e != api.OK || (x == 0) != (len(a) == 0) || x != value(a).Sign() {
			t.Fatalf("Sign(%v): %d, %d", a, x, e)
		}
		if n, e := surd.Sign(result(t)(surd.Mul(a, a))); e != api.OK || n != x*x {
			t.Fatalf("square of %v: sign %d, %d", a, n, e)
		}
		for _, b := range list[:i] {
			y, _ := surd.Sign(b)
			if n, e := surd.Sign(result(t)(surd.Mul(a, b))); e != api.OK || n != x*y {
				t.Fatalf("%v times %v: sign %d, %d", a, b, n, e)
			}
		}
	}
}

// away returns a surd that consists of terms, which are positive together, and
// of a rational that is less, or more, so that the sum of all terms, rounded
// down, is k (in units of 10^-64): less, if the terms come positive.
func away(terms api.Surd, k int64, isTurned bool) api.Surd {
	if isTurned {
		terms = turned(terms)
	}
	// the rational is between two neighbours, so that it is rounded down to the lower one
	low := rat(new(big.Int).Sub(big.NewInt(k), total(terms)))
	unit := rat(power(10, 64))
	var c *big.Rat
	if low.Sign() >= 0 {
		c = simplest(over(low, unit), over(plus(low, whole(1)), unit))
	} else {
		c = opposite(simplest(over(opposite(plus(low, whole(1))), unit), over(opposite(low), unit)))
	}
	return slices.Concat(api.Surd{{Coef: text(c), Root: "1"}}, terms)
}

// The sign is decided by the sum S of the rounded terms alone: it is positive
// from 1 on, and negative down from the number of terms with a minus sign.
func TestP4_4SignsNearZero(t *testing.T) {
	for _, terms := range []api.Surd{of("1", "2"), of("1/7", "3"), of("3/2", "20402"), of("1", "2", "1", "3"), of("-1", "3", "1", "10"), of("1", "2", "1", "3", "1", "5", "-1/3", "7"), primes(15)} {
		for k := int64(-20); k <= 5; k++ {
			for _, isTurned := range []bool{false, true} {
				s := away(terms, k, isTurned)
				if check(s) != api.OK || total(s).Cmp(big.NewInt(k)) != 0 {
					t.Fatalf("%v is not %d away from 0: %v", s, k, total(s))
				}
				want, wantE := 0, api.ErrLimit
				if k >= 1 {
					want, wantE = 1, api.OK
				} else if k <= -int64(len(s)) {
					want, wantE = -1, api.OK
				}
				if n, e := surd.Sign(s); n != want || e != wantE {
					t.Errorf("Sign(%v), S = %d: %d, %d, not %d, %d", s, k, n, e, want, wantE)
				}
				if n, e := surd.Compare(s, nil); n != want || e != wantE {
					t.Errorf("Compare(%v, 0), S = %d: %d, %d, not %d, %d", s, k, n, e, want, wantE)
				}
				rest, of1 := s[1:], turned(s[:1])
				if n, e := surd.Compare(rest, of1); n != want || e != wantE {
					t.Errorf("Compare(%v, %v), S = %d: %d, %d, not %d, %d", rest, of1, k, n, e, want, wantE)
				}
			}
		}
	}
}

// The sign of about 10^-n is decided as long as n is less than 63.
func TestP4_4SignsAtAllPlaces(t *testing.T) {
	for _, terms := range []api.Surd{of("1", "2"), of("7/3", "5"), of("1/1000000", "7")} {
		for n := int64(1); n <= 75; n++ {
			low := plus(over(rat(total(terms)), rat(power(10, 64))), over(whole(1), rat(power(10, n))))
			c := simplest(low, plus(low, over(whole(1), rat(power(10, min(n+2, 70))))))
			for _, s := range []api.Surd{slices.Concat(of("-"+text(c), "1"), terms), slices.Concat(of(text(c), "1"), api.Surd(turned(terms)))} {
				want, wantE := sign(s)
				if got, e := surd.Sign(s); got != want || e != wantE || n < 63 && (e != api.OK || got != value(s).Sign()) {
					t.Errorf("Sign(%v): %d, %d, not %d, %d", s, got, e, want, wantE)
				}
			}
		}
	}
}

// A negative term that is a multiple of 10^-64 is not rounded at all.
func TestP4_4SignsOfDecimals(t *testing.T) {
	denominator := new(big.Int).Mul(power(2, 64), power(5, 58))
	step := new(big.Int).Quo(power(10, 64), denominator)
	found := 0
	for k := int64(2); found < 4; k++ {
		s := api.Surd{{Coef: text(big.NewRat(1, k)), Root: "2"}}
		count, rest := new(big.Int).QuoRem(total(s), step, new(big.Int))
		if rest.Cmp(big.NewInt(int64(found%2))) != 0 {
			continue
		}
		s = slices.Concat(api.Surd{{Coef: text(new(big.Rat).SetFrac(count.Neg(count), denominator)), Root: "1"}}, s)
		want, wantE := found%2, api.OK
		if want == 0 {
			wantE = api.ErrLimit
		}
		if n, e := surd.Sign(s); check(s) != api.OK || n != want || e != wantE {
			t.Errorf("Sign(%v): %d, %d, not %d, %d", s, n, e, want, wantE)
		}
		found++
	}
}

func TestP4_5Order(t *testing.T) {
	for _, x := range []struct {
		a, b api.Surd
		want int
	}{
		{nil, nil, 0}, {of("1", "2"), nil, 1}, {nil, of("1", "2"), -1}, {of("1", "2"), of("1", "2"), 0}, {of("1", "20402"), of("101", "2"), 0}, {of("1", "20402"), of("102", "2"), -1}, {of("1", "2", "1", "3"), of("1", "10"), -1}, {of("1", "2", "1", "3"), of("-1/62", "1", "1", "10"), 1},
		{of("-1", "2"), of("1", "2"), -1}, {of("-1", "2"), of("-1", "3"), 1}, {of("99", "1"), of("70", "2"), 1}, {of("7/5", "1"), of("1", "2"), -1}, {of("3/2", "1"), of("1", "2"), 1},
	} {
		if n := compare(t, x.a, x.b); n != x.want {
			t.Errorf("Compare(%v, %v): %d", x.a, x.b, n)
		}
	}
}

func TestP4_5OrderOfThree(t *testing.T) {
	list := surds()
	slices.SortFunc(list, func(a, b api.Surd) int { return compare(t, a, b) })
	r := random(8)
	for i, a := range list {
		for k, b := range list {
			want := value(a).Cmp(value(b))
			if areEqual(t, a, b) {
				want = 0
			}
			n := compare(t, a, b)
			if n != want || n != -compare(t, b, a) || n < 0 && i > k || n > 0 && i < k {
				t.Fatalf("Compare(%v, %v): %d, not %d", a, b, n, want)
			}
			c := list[r.IntN(len(list))]
			if m := compare(t, result(t)(surd.Add(a, c)), result(t)(surd.Add(b, c))); m != n {
				t.Fatalf("Compare(%v, %v): %d, with %v: %d", a, b, n, c, m)
			}
		}
	}
}

func TestP4_6Roots(t *testing.T) {
	list := []api.Num{"0", "1", "2", "8", "1/2", "9/4", "12/25", "20402", "10201/2", "18818", "7/103", num(nines(30)), num(sevens(40)), num("1/", nines(20)), num(tenTo(20), "/", nines(15))}
	r := random(9)
	for range 200 {
		list = append(list, text(new(big.Rat).Abs(parse(anyCoef(r, 18)))))
	}
	for _, q := range list {
		s := result(t)(surd.Make(of("1", q)))
		if n, is, e := surd.Value(result(t)(surd.Mul(s, s))); n != q || !is || e != api.OK {
			t.Errorf("the square of the root of %s: %s, %v, %d", q, n, is, e)
		}
		if n, e := surd.Sign(s); n != parse(q).Sign() || e != api.OK {
			t.Errorf("the sign of the root of %s: %d, %d", q, n, e)
		}
	}
}

func TestP4_7Values(t *testing.T) {
	for _, x := range []struct {
		s    api.Surd
		want api.Num
		is   bool
	}{
		{nil, "0", true}, {api.Surd{}, "0", true}, {of("-5/3", "1"), "-5/3", true}, {of("7", "1"), "7", true}, {of(num("-", nines(60)), "1"), num("-", nines(60)), true}, {of("1", "2"), "", false}, {of("1", "20402"), "", false}, {of("1", "1", "1", "2"), "", false}, {of("1", "2", "1", "3"), "", false}, {of("1", "10"), "", false}, {of("1", "11"), "", false},
	} {
		if n, is, e := surd.Value(x.s); n != x.want || is != x.is || e != api.OK {
			t.Errorf("Value(%v): %s, %v, %d", x.s, n, is, e)
		}
	}
	for _, s := range []api.Surd{of("1", "4"), of("0", "1"), of("1", "1", "1", "1"), of("2/2", "1"), primes(17)} {
		if n, is, e := surd.Value(s); n != "" || is || e != api.ErrArgument {
			t.Errorf("Value(%v): %s, %v, %d", s, n, is, e)
		}
	}
	for _, s := range surds() {
		n, is, e := surd.Value(s)
		if e != api.OK || is != (n != "") {
			t.Fatalf("Value(%v): %s, %v, %d", s, n, is, e)
		}
		if is && compare(t, s, result(t)(surd.Make(of(n, "1")))) != 0 {
			t.Errorf("%v is not %s", s, n)
		}
		// no decimal is equal to what is not rational
		near, _ := value(s).Rat(nil)
		near = over(rat(floor(times(near, rat(power(10, 20))))), rat(power(10, 20)))
		if c := compare(t, s, result(t)(surd.Make(of(text(near), "1")))); !is && c == 0 {
			t.Errorf("%v is %s", s, text(near))
		}
	}
}

func TestP4_8Conjugates(t *testing.T) {
	r := random(10)
	for _, n := range []api.Num{"2", "3", "8", "1/2", "20402", "10403", "7/5", "4", "0", num(sevens(20))} {
		for range 20 {
			a, b := anyCoef(r, 8), anyCoef(r, 8)
			plus, less := result(t)(surd.Make(of(a, "1", b, n))), result(t)(surd.Make(of(a, "1", text(opposite(parse(b))), n)))
			want := minus(times(parse(a), parse(a)), times(times(parse(b), parse(b)), parse(n)))
			for _, p := range []api.Surd{result(t)(surd.Mul(plus, less)), result(t)(surd.Mul(less, plus))} {
				if c, is, e := surd.Value(p); c != text(want) || !is || e != api.OK {
					t.Fatalf("%s and %s root %s: %v, not %s", a, b, n, p, text(want))
				}
			}
		}
	}
	if p := result(t)(surd.Mul(of("1", "1", "1", "2"), of("1", "1", "-1", "2"))); !slices.Equal(p, of("-1", "1")) {
		t.Error("1 + root 2 and 1 - root 2:", p)
	}
}
