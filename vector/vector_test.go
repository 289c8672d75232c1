package vector_test

import (
	"fmt"
	"math/big"
	"math/rand/v2"
	"slices"
	"testing"

	"kingpost/api"
	"kingpost/rational"
	"kingpost/surd"
	"kingpost/vector"
)

// The results are compared with those of reference_test.go, and with each
// other as the promises say.

// same compares all functions of two vectors, which are right, with the
// reference.
func same(t *testing.T, a, b api.Spot) {
	t.Helper()
	for _, f := range functions() {
		if got, want := f.call(a, b), f.want(coordinates(a), coordinates(b)); got != want {
			t.Errorf("%s(%q, %q): %s, not %s", f.name, a, b, got, want)
		}
	}
}

// sameScale compares Scale with the reference, and returns its result.
func sameScale(t *testing.T, a api.Spot, c api.Num) (api.Spot, api.Errno) {
	t.Helper()
	s, e := vector.Scale(a, c)
	if want, f := scaled(a, c); s != want || e != f {
		t.Errorf("Scale(%q, %q): %q, %d, not %q, %d", a, c, s, e, want, f)
	}
	return s, e
}

// sameLength compares Length with the reference, and returns its result.
func sameLength(t *testing.T, a api.Spot) (api.Surd, api.Errno) {
	t.Helper()
	s, e := vector.Length(a)
	if want, f := lengthBy(a); !isSurd(s, e, want, f) {
		t.Errorf("Length(%q): %v, %d, not %v, %d", a, s, e, want, f)
	}
	return s, e
}

// wantError asks a function of two vectors for an error, or for OK, and
// compares it with the reference.
func wantError(t *testing.T, name string, a, b api.Spot, want api.Errno) {
	t.Helper()
	same(t, a, b)
	for _, f := range functions() {
		if f.name == name && (f.call(a, b) == f.failed(api.ErrLimit)) != (want == api.ErrLimit) {
			t.Errorf("%s(%q, %q): %s, not %d", name, a, b, f.call(a, b), want)
		}
	}
}

// must returns what a function should have returned.
func must[R any](r R, e api.Errno) R {
	if e != api.OK {
		panic(fmt.Sprintf("result %v, error %d", r, e))
	}
	return r
}

func add(a, b api.Spot) api.Spot           { return must(vector.Add(a, b)) }
func sub(a, b api.Spot) api.Spot           { return must(vector.Sub(a, b)) }
func scale(a api.Spot, c api.Num) api.Spot { return must(vector.Scale(a, c)) }
func dotOf(a, b api.Spot) api.Num          { return must(vector.Dot(a, b)) }
func crossOf(a, b api.Spot) api.Spot       { return must(vector.Cross(a, b)) }
func lengthOf(a api.Spot) api.Surd         { return must(vector.Length(a)) }
func isParallel(a, b api.Spot) bool        { return must(vector.Parallel(a, b)) }
func orderOf(a, b api.Spot) int            { return must(vector.Compare(a, b)) }
func plus(a, b api.Num) api.Num            { return must(rational.Add(a, b)) }
func times(a, b api.Num) api.Num           { return must(rational.Mul(a, b)) }
func zero() api.Spot                       { return spot("0", "0", "0") }
func all(c api.Num) api.Spot               { return spot(c, c, c) }
func place(i int, c api.Num) api.Spot      { return put(zero(), i, c) }
func opposite(a api.Spot) api.Spot         { return scale(a, "-1") }

func wantSpot(t *testing.T, law string, a, b api.Spot) {
	t.Helper()
	if a != b {
		t.Errorf("%s: %q is not %q", law, a, b)
	}
}

func wantNum(t *testing.T, law string, a, b api.Num) {
	t.Helper()
	if a != b {
		t.Errorf("%s: %q is not %q", law, a, b)
	}
}

// put is the vector with another coordinate at a place.
func put(a api.Spot, i int, c api.Num) api.Spot {
	*[]*api.Num{&a.X, &a.Y, &a.Z}[i] = c
	return a
}

// someVectors are vectors of which any two are far from all limits.
func someVectors() []api.Spot {
	return []api.Spot{
		zero(), all("1"), all("-1"), all("1/2"), all("-7/3"),
		place(0, "1"), place(1, "1"), place(2, "1"), place(0, "-1"), place(1, "-1"), place(2, "-1"), place(0, "2/3"), place(1, "2/3"), place(2, "-2/3"),
		spot("1", "2", "3"), spot("-1", "-2", "-3"), spot("1/2", "1", "3/2"), spot("-100", "-200", "-300"), spot("1", "2", "4"), spot("1", "3", "3"), spot("2", "2", "3"), spot("1", "2", "-3"), spot("1", "-2", "3"), spot("-1", "2", "3"),
		spot("3", "4", "0"), spot("0", "3", "4"), spot("4", "0", "3"), spot("3", "4", "12"), spot("1/2", "1/2", "0"), spot("0", "1/2", "-1/2"), spot("1", "1", "0"), spot("1", "0", "1"), spot("2/7", "3/7", "6/7"),
		spot("1000000", "1000001", "999999"), spot("1000001", "1000002", "1000000"), spot("1000000", "1000001", "1000000"), spot("1/1000000", "-1/999999", "5"), spot("65536", "-65536", "131071/2"),
		spot(num(tenTo(40)), num("-", nines(40)), num("1/", nines(40))), spot(num(tenTo(40)), num("-", nines(40)), num("1/", tenTo(40))), spot("9223372036854775807", "-9223372036854775808", "9223372036854775807/2"),
	}
}

// eachPair goes through all pairs of some vectors.
func eachPair(with func(a, b api.Spot)) {
	for _, a := range someVectors() {
		for _, b := range someVectors() {
			with(a, b)
		}
	}
}

// anyVector returns a vector whose coordinates have at most so many digits in
// their parts, and are equal to 0 at times.
func anyVector(r *rand.Rand, most int) api.Spot {
	return spot(anyNumber(r, most), anyNumber(r, most), anyNumber(r, most))
}

func anyNumber(r *rand.Rand, most int) api.Num {
	if r.IntN(6) == 0 {
		return "0"
	}
	d := big.NewInt(1)
	if r.IntN(2) == 0 {
		d = anyInt(r, 1+r.IntN(most))
	}
	n := anyInt(r, 1+r.IntN(most))
	if r.IntN(2) == 0 {
		n.Neg(n)
	}
	return text(new(big.Rat).SetFrac(n, d))
}

// anyInt returns an integer of so many digits.
func anyInt(r *rand.Rand, digits int) *big.Int {
	out := []byte{byte('1' + r.IntN(9))}
	for len(out) < digits {
		out = append(out, byte('0'+r.IntN(10)))
	}
	n, _ := new(big.Int).SetString(string(out), 10)
	return n
}

func TestP9_1Examples(t *testing.T) {
	wantSpot(t, "cross product of the axes", crossOf(place(0, "1"), place(1, "1")), place(2, "1"))
	wantSpot(t, "cross product of the axes", crossOf(place(1, "1"), place(2, "1")), place(0, "1"))
	wantSpot(t, "cross product of the axes", crossOf(place(2, "1"), place(0, "1")), place(1, "1"))
	if s := lengthOf(spot("1/2", "1/2", "0")); !slices.Equal(s, term("1/2", "2")) {
		t.Errorf("length of 1/2, 1/2, 0: %v", s)
	}
	if s := lengthOf(spot("3", "4", "12")); !slices.Equal(s, term("13", "1")) {
		t.Errorf("length of 3, 4, 12: %v", s)
	}
	if s := lengthOf(zero()); len(s) != 0 {
		t.Errorf("length of 0: %v", s)
	}
}

func TestP9_1Pairs(t *testing.T) {
	eachPair(func(a, b api.Spot) { same(t, a, b) })
	r := random(1)
	for i := range 3000 {
		same(t, anyVector(r, 1+i%30), anyVector(r, 1+i%30))
	}
}

func TestP9_1Scale(t *testing.T) {
	r := random(2)
	for _, a := range someVectors() {
		if e := vector.Check(a); e != api.OK {
			t.Errorf("Check(%q): %d", a, e)
		}
		for _, c := range []api.Num{"0", "1", "-1", "2", "-1/2", "5/3", num(tenTo(50)), num("-1/", nines(50))} {
			must(sameScale(t, a, c))
		}
		for range 10 {
			must(sameScale(t, a, anyNumber(r, 20)))
		}
	}
}

func TestP9_1Length(t *testing.T) {
	for _, a := range someVectors() {
		sameLength(t, a)
	}
	r := random(3)
	for range 1000 {
		must(sameLength(t, anyVector(r, 3)))
	}
	for range 300 {
		sameLength(t, anyVector(r, 12))
	}
}

// bad is a text that is no number, with the error of layer 2.
type bad struct {
	c    api.Num
	want api.Errno
}

func badNumbers() []bad {
	longer := nines(301)
	return []bad{
		{"", api.ErrNumber}, {"-", api.ErrNumber}, {"x", api.ErrNumber}, {"01", api.ErrNumber}, {"-0", api.ErrNumber}, {"+1", api.ErrNumber}, {" 1", api.ErrNumber}, {"1.5", api.ErrNumber}, {"1/", api.ErrNumber}, {"/2", api.ErrNumber}, {"1/0", api.ErrNumber}, {"0/5", api.ErrNumber},
		{"2/2", api.ErrNumber}, {"2/4", api.ErrNumber}, {"-2/4", api.ErrNumber}, {"1/1", api.ErrNumber}, {"1/-2", api.ErrNumber}, {"--1", api.ErrNumber}, {"1/2/3", api.ErrNumber}, {"\xff", api.ErrNumber}, {num("0", longer), api.ErrNumber},
		{num(longer), api.ErrLimit}, {num("-", longer), api.ErrLimit}, {num("1/", longer), api.ErrLimit}, {num(longer, "/", longer), api.ErrLimit}, {num("-1/", longer), api.ErrLimit},
	}
}

// longest are vectors for which sums and products exceed layer 2's limit.
func longest() []api.Spot {
	return []api.Spot{zero(), spot("1", "-2/3", "5"), all(num(nines(300))), all(num("-", nines(300), "/", tenTo(299)))}
}

// wantFailure asks all functions of two vectors for an error, and that all
// other results are zero.
func wantFailure(t *testing.T, a, b api.Spot, want api.Errno) {
	t.Helper()
	for _, f := range functions() {
		if got := f.call(a, b); got != f.failed(want) {
			t.Errorf("%s(%.20q, %.20q): %s, not %d", f.name, a, b, got, want)
		}
	}
}

// wantAlone asks all functions of one vector for an error.
func wantAlone(t *testing.T, a api.Spot, want api.Errno) {
	t.Helper()
	if e := vector.Check(a); e != want {
		t.Errorf("Check(%.20q): %d, not %d", a, e, want)
	}
	if s, e := sameLength(t, a); len(s) != 0 || e != want {
		t.Errorf("Length(%.20q): %v, %d, not %d", a, s, e, want)
	}
	for _, c := range []api.Num{"1", num(nines(300)), "x", num(nines(301))} {
		if s, e := sameScale(t, a, c); s != (api.Spot{}) || e != want {
			t.Errorf("Scale(%.20q, %.20q): %q, %d, not %d", a, c, s, e, want)
		}
	}
}

func TestP9_1Errors(t *testing.T) {
	for _, x := range badNumbers() {
		for i := range 3 {
			for _, good := range longest() {
				a := put(good, i, x.c)
				wantAlone(t, a, x.want)
				for _, b := range longest() {
					wantFailure(t, a, b, x.want)
					wantFailure(t, b, a, x.want)
				}
			}
		}
	}
}

// Of several errors that of the first coordinate is returned, and that of the
// first vector before that of the second one.
func TestP9_1FirstError(t *testing.T) {
	for _, x := range badNumbers() {
		for _, y := range badNumbers() {
			for i := range 3 {
				for j := range 3 {
					a, b := place(i, x.c), place(j, y.c)
					wantFailure(t, a, b, x.want)
					both := put(b, i, x.c)
					want := x.want
					if j < i {
						want = y.want
					}
					wantAlone(t, both, want)
					wantFailure(t, both, all("2"), want)
					wantFailure(t, all("2"), both, want)
				}
			}
		}
		wantAlone(t, all(x.c), x.want)
	}
	wantAlone(t, api.Spot{}, api.ErrNumber)
}

func TestP9_1ScaleErrors(t *testing.T) {
	for _, x := range badNumbers() {
		for _, a := range longest() {
			if s, e := sameScale(t, a, x.c); s != (api.Spot{}) || e != x.want {
				t.Errorf("Scale(%.20q, %.20q): %q, %d, not %d", a, x.c, s, e, x.want)
			}
		}
	}
}

// The sum of two numbers has 301 digits, or the product of their denominators
// or of a numerator and a denominator, or they have 300.
func TestP9_1SumLimits(t *testing.T) {
	most, long, longer := num(nines(300)), num("1/", tenTo(149)), num("1/", tenTo(150))
	for i := range 3 {
		for _, x := range []struct {
			a, b api.Num
			want api.Errno
		}{
			{most, "1", api.ErrLimit}, {"1", most, api.ErrLimit}, {most, "-1", api.OK}, {"-1", most, api.OK}, {most, "0", api.OK}, {num("-", nines(300)), "-1", api.ErrLimit},
			{longer, longer, api.ErrLimit}, {longer, long, api.OK}, {long, longer, api.OK}, {most, "1/2", api.ErrLimit}, {"1/2", most, api.ErrLimit}, {num(tenTo(299)), "1/9", api.OK}, {num(tenTo(299)), "1/11", api.ErrLimit},
		} {
			for _, rest := range []api.Num{"0", "1/3"} {
				a, b := put(all(rest), i, x.a), put(all("-2"), i, x.b)
				wantError(t, "Add", a, b, x.want)
				wantError(t, "Sub", a, opposite(b), x.want)
			}
		}
	}
}

// The product of two numbers has 301 digits, or 300.
func TestP9_1ScaleLimits(t *testing.T) {
	for i := range 3 {
		for _, x := range []struct {
			a, c api.Num
			want api.Errno
		}{
			{num(tenTo(150)), num(tenTo(150)), api.ErrLimit}, {num(tenTo(150)), num(tenTo(149)), api.OK}, {num("1/", tenTo(150)), num("1/", tenTo(150)), api.ErrLimit}, {num("1/", tenTo(149)), num("-1/", tenTo(150)), api.OK},
			{num(nines(300)), "2", api.ErrLimit}, {num(nines(300)), "-1", api.OK}, {num(tenTo(150)), num("1/", tenTo(150)), api.OK}, {num(tenTo(299)), "10/3", api.ErrLimit}, {num(tenTo(299)), "9", api.OK},
		} {
			if s, e := sameScale(t, place(i, x.a), x.c); e != x.want {
				t.Errorf("Scale(%q at %d, %q): %q, %d, not %d", x.a, i, x.c, s, e, x.want)
			}
			wantError(t, "Dot", place(i, x.a), place(i, x.c), x.want)
		}
	}
}

// The products of X and Y are added first, and then that of Z.
func TestP9_1DotLimits(t *testing.T) {
	most := num(nines(300))
	for _, x := range []struct {
		a    api.Spot
		want api.Errno
	}{
		{spot(most, "1", "-1"), api.ErrLimit}, {spot("1", most, "-1"), api.ErrLimit}, {spot("-1", most, "1"), api.OK}, {spot(most, "-1", "1"), api.OK}, {spot("1", "-1", most), api.OK}, {spot("-1", "2", most), api.ErrLimit}, {spot("1", "1", most), api.ErrLimit}, {spot(most, "0", "1"), api.ErrLimit}, {spot(most, "-1", "0"), api.OK}, {spot(most, "-1", "2"), api.ErrLimit},
		{spot(num("1/", tenTo(150)), num("1/", tenTo(150)), "0"), api.ErrLimit}, {spot(num("1/", tenTo(150)), num("1/", tenTo(149)), "0"), api.OK}, {spot(num("1/", tenTo(150)), "0", num("1/", tenTo(150))), api.ErrLimit}, {spot(num("1/", tenTo(150)), "0", num("1/", tenTo(149))), api.OK},
	} {
		wantError(t, "Dot", x.a, all("1"), x.want)
		wantError(t, "Dot", all("-1"), x.a, x.want)
	}
}

// Each product of two coordinates exceeds the limit by itself, or only their
// difference does.
func TestP9_1CrossLimits(t *testing.T) {
	most := num(nines(300))
	for j := range 3 {
		k := (j + 1) % 3
		for _, x := range []struct {
			a, b api.Num
			want api.Errno
		}{{num(tenTo(150)), num(tenTo(150)), api.ErrLimit}, {num(tenTo(150)), num(tenTo(149)), api.OK}, {num("1/", tenTo(150)), num("-1/", tenTo(150)), api.ErrLimit}, {num("1/", tenTo(150)), num("-1/", tenTo(149)), api.OK}} {
			for _, name := range []string{"Cross", "Parallel"} {
				wantError(t, name, place(j, x.a), place(k, x.b), x.want)
				wantError(t, name, place(k, x.a), place(j, x.b), x.want)
				wantError(t, name, place(j, x.a), place(j, x.b), api.OK)
			}
		}
		for _, name := range []string{"Cross", "Parallel"} {
			// The difference is most and 1, or most less 1.
			a := put(place(j, most), k, "1")
			wantError(t, name, a, put(place(k, "1"), j, "-1"), api.ErrLimit)
			wantError(t, name, a, put(place(k, "1"), j, "1"), api.OK)
			wantError(t, name, put(place(k, "1"), j, "-1"), a, api.ErrLimit)
			// Both products are too long, and equal.
			a = put(place(j, num(tenTo(150))), k, num(tenTo(150)))
			wantError(t, name, a, a, api.ErrLimit)
		}
	}
}

// A comparison that exceeds the limit is not made if a coordinate ahead of it
// differs.
func TestP9_1CompareLimits(t *testing.T) {
	long, short := num(tenTo(299)), api.Num("1/11")
	for i := range 3 {
		wantError(t, "Compare", place(i, long), place(i, short), api.ErrLimit)
		wantError(t, "Compare", place(i, short), place(i, long), api.ErrLimit)
		wantError(t, "Compare", place(i, long), place(i, "1/9"), api.OK)
		wantError(t, "Compare", place(i, num("-", tenTo(299))), place(i, short), api.ErrLimit)
		for j := range 3 {
			if i == j {
				continue
			}
			want := api.ErrLimit
			if j < i {
				want = api.OK
			}
			for _, c := range []api.Num{"1", "-1", "1/2", num(nines(300))} {
				wantError(t, "Compare", place(i, long), put(place(i, short), j, c), want)
				wantError(t, "Compare", put(place(i, short), j, c), place(i, long), want)
			}
		}
	}
	// The products with the other denominator are too long also for equal ones.
	a := all(num(nines(151), "/", tenTo(150)))
	wantError(t, "Compare", a, a, api.ErrLimit)
	a = all(num(nines(150), "/", tenTo(149)))
	wantError(t, "Compare", a, a, api.OK)
}

func TestP9_1LengthLimits(t *testing.T) {
	for i := range 3 {
		for _, x := range []struct {
			c    api.Num
			want api.Errno
		}{
			{num(nines(45)), api.OK}, {num("-", nines(45)), api.OK}, {num("1/", nines(45)), api.OK}, {num(nines(44), "/", tenTo(44)), api.OK}, {num(tenTo(45)), api.ErrLimit}, {num("1/", tenTo(45)), api.ErrLimit}, {num("-1/", tenTo(45)), api.ErrLimit},
			{num(nines(150)), api.ErrLimit}, {num(tenTo(150)), api.ErrLimit}, {num("1/", nines(150)), api.ErrLimit}, {num("1/", tenTo(150)), api.ErrLimit}, {num(nines(300)), api.ErrLimit}, {num("1/", nines(300)), api.ErrLimit},
		} {
			if s, e := sameLength(t, place(i, x.c)); e != x.want {
				t.Errorf("Length(%q at %d): %v, %d, not %d", x.c, i, s, e, x.want)
			}
		}
	}
}

// A Root has at most 40 digits: those of the square of 20 digits.
func TestP9_1RootLimits(t *testing.T) {
	r, seen := random(4), map[int]int{}
	for range 300 {
		a := spot(num(anyInt(r, 20).String()), num(anyInt(r, 20).String()), num(anyInt(r, 20).String()))
		_, n := normalForm(square(a))
		seen[length(n)]++
		want := api.OK
		if length(n) > 40 {
			want = api.ErrLimit
		}
		if s, e := sameLength(t, a); e != want {
			t.Errorf("Length(%q): %v, %d, not %d", a, s, e, want)
		}
	}
	if seen[40] < 5 || seen[41] < 5 {
		t.Errorf("Roots of 40 or 41 digits are too rare: %v", seen)
	}
}

// A Coef has at most 60 digits. The length of x, y, z, each divided by the
// square n of this vector's length and by s, is 1/(n s) root n.
func TestP9_1CoefLimits(t *testing.T) {
	r, seen := random(5), map[int]int{}
	for range 600 {
		a := spot(num(anyInt(r, 18).String()), num(anyInt(r, 18).String()), num(anyInt(r, 18+r.IntN(2)).String()))
		n := square(a).Num()
		s := new(big.Int).Exp(big.NewInt(2), big.NewInt(int64(70+r.IntN(10))), nil)
		v := scale(a, text(new(big.Rat).SetFrac(big.NewInt(1), s.Mul(s, n))))
		c, left := normalForm(square(v))
		seen[length(c.Denom())]++
		want := api.OK
		if length(c.Denom()) > 60 || length(left) > 40 {
			want = api.ErrLimit
		}
		if s, e := sameLength(t, v); e != want {
			t.Errorf("Length(%q): %v, %d, not %d", v, s, e, want)
		}
	}
	if seen[60] < 5 || seen[61] < 5 {
		t.Errorf("Coefs of 60 or 61 digits are too rare: %v", seen)
	}
}

// Results share no memory with each other.
func TestP9_1Memory(t *testing.T) {
	a := spot("1", "1", "0")
	first := lengthOf(a)
	first[0] = api.Term{Coef: "7", Root: "7"}
	if s := lengthOf(a); !slices.Equal(s, term("1", "2")) {
		t.Errorf("Length(%q) after its result was changed: %v", a, s)
	}
}

func TestP9_2Space(t *testing.T) {
	r := random(6)
	check := func(a, b, d api.Spot) {
		wantSpot(t, "sums are commutative", add(a, b), add(b, a))
		wantSpot(t, "sums are associative", add(add(a, b), d), add(a, add(b, d)))
		wantSpot(t, "differences undo sums", sub(add(a, b), b), a)
		wantSpot(t, "sums undo differences", add(sub(a, b), b), a)
		wantSpot(t, "0 changes nothing", add(a, zero()), a)
		wantSpot(t, "a vector less itself is 0", sub(a, a), zero())
		wantSpot(t, "a difference is the sum with the opposite", sub(a, b), add(a, opposite(b)))
		c, x := anyNumber(r, 8), anyNumber(r, 8)
		wantSpot(t, "multiples distribute over sums", scale(add(a, b), c), add(scale(a, c), scale(b, c)))
		wantSpot(t, "multiples distribute over differences", scale(sub(a, b), c), sub(scale(a, c), scale(b, c)))
		wantSpot(t, "multiples distribute over sums of numbers", scale(a, plus(c, x)), add(scale(a, c), scale(a, x)))
		wantSpot(t, "multiples of multiples", scale(scale(a, c), x), scale(a, times(c, x)))
		wantSpot(t, "1 times a vector", scale(a, "1"), a)
		wantSpot(t, "0 times a vector", scale(a, "0"), zero())
	}
	eachPair(func(a, b api.Spot) { check(a, b, anyVector(r, 8)) })
	for range 500 {
		check(anyVector(r, 10), anyVector(r, 10), anyVector(r, 10))
	}
}

func TestP9_3ScalarProduct(t *testing.T) {
	r := random(7)
	check := func(a, b, d api.Spot) {
		c := anyNumber(r, 6)
		wantNum(t, "symmetric", dotOf(a, b), dotOf(b, a))
		wantNum(t, "linear in sums", dotOf(add(a, b), d), plus(dotOf(a, d), dotOf(b, d)))
		wantNum(t, "linear in multiples", dotOf(scale(a, c), b), times(c, dotOf(a, b)))
		wantNum(t, "linear in the second vector", dotOf(a, scale(b, c)), times(c, dotOf(a, b)))
		if sign := must(rational.Compare(dotOf(a, a), "0")); sign < 0 || (sign == 0) != (a == zero()) {
			t.Errorf("product of %q with itself: %d", a, sign)
		}
	}
	eachPair(func(a, b api.Spot) { check(a, b, anyVector(r, 6)) })
	for range 500 {
		check(anyVector(r, 8), anyVector(r, 8), anyVector(r, 8))
	}
	for i := range 3 {
		for j := range 3 {
			want := api.Num("0")
			if i == j {
				want = "6"
			}
			wantNum(t, "the axes are at right angles", dotOf(place(i, "-2"), place(j, "-3")), want)
		}
	}
}

func TestP9_4CrossProduct(t *testing.T) {
	r := random(8)
	check := func(a, b api.Spot) {
		v := crossOf(a, b)
		wantNum(t, "at right angles to the first", dotOf(v, a), "0")
		wantNum(t, "at right angles to the second", dotOf(v, b), "0")
		wantSpot(t, "exchanged", crossOf(b, a), opposite(v))
		if isParallel(a, b) != (v == zero()) || isParallel(a, b) != isParallel(b, a) {
			t.Errorf("Parallel(%q, %q) with the cross product %q", a, b, v)
		}
		for _, c := range []api.Num{"0", "1", "-1", anyNumber(r, 9)} {
			wantSpot(t, "0 for multiples", crossOf(a, scale(a, c)), zero())
			if !isParallel(a, scale(a, c)) || !isParallel(scale(a, c), a) {
				t.Errorf("%q times %s is not parallel to it", a, c)
			}
		}
	}
	eachPair(check)
	for range 500 {
		check(anyVector(r, 10), anyVector(r, 10))
	}
}

// Vectors that differ from parallel ones by little, in one coordinate, are not
// parallel.
func TestP9_4NearlyParallel(t *testing.T) {
	r := random(9)
	for range 300 {
		a := spot(num(anyInt(r, 60).String()), num("-", anyInt(r, 60).String()), num(anyInt(r, 60).String()))
		b := scale(a, num("-", anyInt(r, 20).String()))
		for i := range 3 {
			near := add(b, place(i, num("1/", tenTo(60))))
			same(t, a, near)
			if isParallel(a, near) || !isParallel(a, b) {
				t.Errorf("Parallel(%q, %q) is wrong, or without the fraction", a, near)
			}
		}
	}
	for i := range 3 {
		for j := range 3 {
			if isParallel(place(i, "5"), place(j, "-7/2")) != (i == j) {
				t.Errorf("axes %d and %d", i, j)
			}
		}
		if !isParallel(zero(), place(i, "1")) || !isParallel(place(i, "1"), zero()) {
			t.Errorf("axis %d is not parallel to 0", i)
		}
	}
}

func TestP9_5Lagrange(t *testing.T) {
	r := random(10)
	check := func(a, b api.Spot) {
		v, d := crossOf(a, b), dotOf(a, b)
		wantNum(t, "Lagrange", plus(dotOf(v, v), times(d, d)), times(dotOf(a, a), dotOf(b, b)))
	}
	for range 1000 {
		check(anyVector(r, 6), anyVector(r, 6))
	}
	for _, a := range someVectors()[:34] {
		for _, b := range someVectors()[:34] {
			check(a, b)
		}
	}
}

func TestP9_6Length(t *testing.T) {
	r := random(11)
	check := func(a api.Spot) {
		s := lengthOf(a)
		if e := surd.Check(s); e != api.OK {
			t.Errorf("length of %q: %v, error %d", a, s, e)
		}
		value, isRational, _ := surd.Value(must(surd.Mul(s, s)))
		if !isRational || value != dotOf(a, a) {
			t.Errorf("length of %q: %v", a, s)
		}
		if sign := must(surd.Sign(s)); (sign == 0) != (a == zero()) || sign < 0 {
			t.Errorf("length of %q: %v, sign %d", a, s, sign)
		}
		for _, c := range []api.Num{"2", "1/2", "-3", "0", "1"} {
			size := must(rational.Compare(c, "0"))
			grown := must(surd.Scale(s, times(c, must(rational.Of(size, 1)))))
			if n := must(surd.Compare(lengthOf(scale(a, c)), grown)); n != 0 {
				t.Errorf("length of %q times %s: %d", a, c, n)
			}
		}
		if a != zero() && must(surd.Compare(lengthOf(scale(a, "8/7")), s)) != 1 {
			t.Errorf("length of %q does not grow", a)
		}
	}
	for _, a := range someVectors()[:34] {
		check(a)
	}
	for range 500 {
		check(anyVector(r, 3))
	}
}

func TestP9_7Order(t *testing.T) {
	r := random(12)
	l := someVectors()
	for range 20 {
		l = append(l, anyVector(r, 9))
	}
	// Vectors that differ from the one before in X, in Y alone, or in Z alone.
	a := spot("-3", "1/2", "7")
	l = append(l, a, add(a, place(0, "1/9")), add(a, place(1, "1/9")), add(a, place(2, "1/9")), add(a, spot("0", "-1", "9")), add(a, spot("1", "-1", "-9")))
	for _, a := range l {
		for _, b := range l {
			n := orderOf(a, b)
			if n != -orderOf(b, a) || (n == 0) != (a == b) {
				t.Errorf("Compare(%q, %q): %d, and %d the other way", a, b, n, orderOf(b, a))
			}
			d := anyVector(r, 9)
			if m := orderOf(add(a, d), add(b, d)); m != n {
				t.Errorf("Compare(%q, %q): %d, and %d with %q added", a, b, n, m, d)
			}
			if orderOf(sub(a, b), zero()) != n {
				t.Errorf("Compare(%q, %q): %d, and another sign of the difference", a, b, n)
			}
		}
	}
	slices.SortFunc(l, orderOf)
	for i, a := range l {
		for _, b := range l[i:] {
			if orderOf(a, b) > 0 {
				t.Errorf("%q is behind %q", a, b)
			}
		}
	}
}
