package slope_test

import (
	"fmt"
	"math"
	"math/big"
	"math/rand/v2"
	"slices"
	"testing"

	"kingpost/api"
	"kingpost/rational"
	"kingpost/slope"
	"kingpost/surd"
)

// The results are compared with those of reference_test.go, and with each
// other as the promises say.

// sameFactor compares Factor with the reference, and returns its result.
func sameFactor(t *testing.T, p api.Num) (api.Surd, api.Errno) {
	t.Helper()
	s, e := slope.Factor(p)
	if want, f := factor(p); !areSame(s, e, want, f) {
		t.Errorf("Factor(%q): %v, %d, not %v, %d", p, s, e, want, f)
	}
	return s, e
}

// samePlan compares Plan with the reference, and returns its result.
func samePlan(t *testing.T, p, q api.Num) (api.Num, api.Errno) {
	t.Helper()
	a, e := slope.Plan(p, q)
	if want, f := tangent(p, q); a != want || e != f {
		t.Errorf("Plan(%q, %q): %s, %d, not %s, %d", p, q, a, e, want, f)
	}
	return a, e
}

// same compares a line function with the reference, and returns its result.
func (f lineFunction) same(t *testing.T, p, q api.Num) (api.Surd, api.Errno) {
	t.Helper()
	s, e := f.call(p, q)
	if want, g := f.line(p, q); !areSame(s, e, want, g) {
		t.Errorf("%s(%q, %q): %v, %d, not %v, %d", f.name, p, q, s, e, want, g)
	}
	return s, e
}

// sameLines compares all functions of two pitches with the reference.
func sameLines(t *testing.T, p, q api.Num) {
	t.Helper()
	samePlan(t, p, q)
	for _, f := range lineFunctions() {
		f.same(t, p, q)
	}
}

// sameInverse compares Inverse with the reference, and returns its result.
func sameInverse(t *testing.T, s api.Surd) (api.Surd, api.Errno) {
	t.Helper()
	r, e := slope.Inverse(s)
	if want, f := inverted(s); !areSame(r, e, want, f) {
		t.Errorf("Inverse(%v): %v, %d, not %v, %d", s, r, e, want, f)
	}
	return r, e
}

// made returns the surd that a function should have returned.
func made(t *testing.T) func(s api.Surd, e api.Errno) api.Surd {
	return func(s api.Surd, e api.Errno) api.Surd {
		t.Helper()
		if e != api.OK || surd.Check(s) != api.OK {
			t.Fatalf("result %v, error %d", s, e)
		}
		return s
	}
}

// number returns the number that a function should have returned.
func number(t *testing.T) func(a api.Num, e api.Errno) api.Num {
	return func(a api.Num, e api.Errno) api.Num {
		t.Helper()
		if e != api.OK || rational.Check(a) != api.OK {
			t.Fatalf("result %s, error %d", a, e)
		}
		return a
	}
}

// compare returns the order of two surds.
func compare(t *testing.T, a, b api.Surd) int {
	t.Helper()
	n, e := surd.Compare(a, b)
	if e != api.OK {
		t.Fatalf("Compare(%v, %v): error %d", a, b, e)
	}
	return n
}

// somePitches are numbers of which any two are far from all limits.
func somePitches() []api.Num {
	return []api.Num{
		"1", "2", "3", "7", "48", "1/2", "1/3", "1/7", "1/48", "3/4", "4/3", "5/12", "12/5", "8/15", "15/8", "20/21", "47/48", "48/47", "41", "577/408", "408/577",
		"101", "1/101", "103/101", "101/103", "10201/2", "2/10201", "99/100", "1000", "1/1000", "12347/1000", "997/991",
	}
}

// eachPair goes through all pairs of some pitches.
func eachPair(with func(p, q api.Num)) {
	for _, p := range somePitches() {
		for _, q := range somePitches() {
			with(p, q)
		}
	}
}

// eachPitch goes through all pitches that are given by a rise and a run.
func eachPitch(with func(rise, run int)) {
	for rise := 1; rise <= 48; rise++ {
		for run := 1; run <= 48; run++ {
			with(rise, run)
		}
	}
}

// edges are parts of pitches, of which some are not right.
func edges() []int {
	return []int{1, 2, 47, 48, 0, 49, 50, -1, -2, -48, 96, 256 + 1, 1<<32 + 1, -1<<32 + 1, math.MaxInt, math.MinInt, math.MinInt + 1}
}

func TestP8_1Check(t *testing.T) {
	parts := edges()
	for n := -5; n <= 60; n++ {
		parts = append(parts, n)
	}
	for _, rise := range parts {
		for _, run := range parts {
			want := check(rise, run)
			if e := slope.Check(rise, run); e != want {
				t.Errorf("Check(%d, %d): %d, not %d", rise, run, e, want)
			}
			p, e := slope.Of(rise, run)
			if e != want || e != api.OK && p != "" {
				t.Errorf("Of(%d, %d): %s, %d, not %d", rise, run, p, e, want)
			}
		}
	}
}

func TestP8_1Of(t *testing.T) {
	eachPitch(func(rise, run int) {
		want := text(big.NewRat(int64(rise), int64(run)))
		if p, e := slope.Of(rise, run); p != want || e != api.OK {
			t.Errorf("Of(%d, %d): %s, %d, not %s", rise, run, p, e, want)
		}
	})
}

func TestP8_1Compare(t *testing.T) {
	for _, rise := range edges() {
		for _, run := range edges() {
			for _, rise2 := range edges() {
				for _, run2 := range edges() {
					n, e := slope.Compare(rise, run, rise2, run2)
					if want, f := order(rise, run, rise2, run2); n != want || e != f {
						t.Errorf("Compare(%d, %d, %d, %d): %d, %d, not %d, %d", rise, run, rise2, run2, n, e, want, f)
					}
				}
			}
		}
	}
}

func TestP8_1Examples(t *testing.T) {
	half := of("1/2", "2")
	if s, e := slope.Factor("3/4"); !areSame(s, e, of("5/4", "1"), api.OK) {
		t.Errorf("Factor(3/4): %v, %d", s, e)
	}
	for i, want := range []api.Surd{half, of("1", "3"), of("1/2", "1")} {
		f := lineFunctions()[i]
		if s, e := f.call("1", "1"); !areSame(s, e, want, api.OK) {
			t.Errorf("%s(1, 1): %v, %d, not %v", f.name, s, e, want)
		}
	}
	if a, e := slope.Plan("1", "1"); a != "1" || e != api.OK {
		t.Errorf("Plan(1, 1): %s, %d", a, e)
	}
	if s, e := slope.Inverse(of("1", "2")); !areSame(s, e, half, api.OK) {
		t.Errorf("Inverse(root 2): %v, %d", s, e)
	}
}

func TestP8_1Factor(t *testing.T) {
	for _, p := range somePitches() {
		made(t)(sameFactor(t, p))
	}
	eachPitch(func(rise, run int) {
		made(t)(sameFactor(t, text(big.NewRat(int64(rise), int64(run)))))
	})
}

func TestP8_1Lines(t *testing.T) {
	eachPair(func(p, q api.Num) { sameLines(t, p, q) })
	r := random(1)
	for range 3000 {
		sameLines(t, anyPitch(r, 4), anyPitch(r, 4))
	}
}

// anyPitch returns a number with at most so many digits in its parts.
func anyPitch(r *rand.Rand, most int) api.Num {
	return text(new(big.Rat).SetFrac(anyInt(r, 1+r.IntN(most)), anyInt(r, 1+r.IntN(most))))
}

// anyInt returns an integer of so many digits.
func anyInt(r *rand.Rand, digits int) *big.Int {
	out := []byte{byte('1' + r.IntN(9))}
	for len(out) < digits {
		out = append(out, byte('0'+r.IntN(10)))
	}
	n, _ := new(big.Int).SetString(string(out), 10)
	return n
}

// badPitches are numbers with an error of their own, or texts that are none.
func badPitches() []struct {
	p    api.Num
	want api.Errno
} {
	longer := nines(301)
	return []struct {
		p    api.Num
		want api.Errno
	}{
		{"", api.ErrNumber}, {"-", api.ErrNumber}, {"x", api.ErrNumber}, {"01", api.ErrNumber}, {"-0", api.ErrNumber}, {"+1", api.ErrNumber}, {" 1", api.ErrNumber}, {"1.5", api.ErrNumber}, {"1/", api.ErrNumber}, {"/2", api.ErrNumber}, {"1/0", api.ErrNumber}, {"0/5", api.ErrNumber},
		{"2/2", api.ErrNumber}, {"2/4", api.ErrNumber}, {"-2/4", api.ErrNumber}, {"1/1", api.ErrNumber}, {"1/-2", api.ErrNumber}, {"--1", api.ErrNumber}, {"1/2/3", api.ErrNumber}, {"\xff", api.ErrNumber}, {num("0", longer), api.ErrNumber},
		{num(longer), api.ErrLimit}, {num("-", longer), api.ErrLimit}, {num("1/", longer), api.ErrLimit}, {num(longer, "/", longer), api.ErrLimit}, {num("-1/", longer), api.ErrLimit},
		{"0", api.ErrRange}, {"-1", api.ErrRange}, {"-1/2", api.ErrRange}, {"-3/4", api.ErrRange}, {num("-", nines(300)), api.ErrRange}, {num("-1/", nines(300)), api.ErrRange},
	}
}

// longest is a number of which even the square exceeds layer 2's limit.
const longest = 300

func TestP8_1Errors(t *testing.T) {
	for _, x := range badPitches() {
		if s, e := sameFactor(t, x.p); e != x.want {
			t.Errorf("Factor(%.20q): %v, %d, not %d", x.p, s, e, x.want)
		}
		// what is computed with the other number does not come first
		for _, good := range []api.Num{"1", "3/4", num(nines(longest)), num("1/", nines(longest))} {
			wantErrors(t, x.p, good, x.want)
			wantErrors(t, good, x.p, x.want)
		}
		for _, y := range badPitches() {
			wantErrors(t, x.p, y.p, x.want)
		}
	}
}

// wantErrors asks all functions of two pitches for an error.
func wantErrors(t *testing.T, p, q api.Num, want api.Errno) {
	t.Helper()
	if a, e := samePlan(t, p, q); a != "" || e != want {
		t.Errorf("Plan(%.20q, %.20q): %s, %d, not %d", p, q, a, e, want)
	}
	for _, f := range lineFunctions() {
		if s, e := f.same(t, p, q); len(s) != 0 || e != want {
			t.Errorf("%s(%.20q, %.20q): %v, %d, not %d", f.name, p, q, s, e, want)
		}
	}
}

// triple returns g and d, e with g^2 = d^2 + e^2, without common divisors; g is
// near the edge: less than it, or greater. v is even, and each v has another
// triple.
func triple(edge *big.Int, v int64, isAbove bool) (g, d, e *big.Int) {
	small, step := big.NewInt(v), big.NewInt(-1)
	vv := big.NewInt(v * v)
	u := new(big.Int).Sub(edge, big.NewInt(v*v+1))
	u.Sqrt(u)
	if isAbove {
		step.Neg(step)
		u.Add(u, step)
	}
	for u.Bit(0) == 0 || new(big.Int).GCD(nil, nil, u, small).Cmp(big.NewInt(1)) != 0 {
		u.Add(u, step)
	}
	uu := new(big.Int).Mul(u, u)
	e = new(big.Int).Mul(u, small)
	return new(big.Int).Add(uu, vv), new(big.Int).Sub(uu, vv), e.Add(e, e)
}

// powerOf10 has one digit more than n.
func powerOf10(n int64) *big.Int { return new(big.Int).Exp(big.NewInt(10), big.NewInt(n), nil) }

func fractionOf(n, d *big.Int) api.Num { return text(new(big.Rat).SetFrac(n, d)) }

// The squares of parts with 45 digits are within layer 3's limit of 90 digits,
// and not those with more.
func TestP8_1FactorLimits(t *testing.T) {
	for v := int64(2); v < 40; v += 2 {
		g, d, e := triple(powerOf10(45), v, false)
		for _, p := range []api.Num{fractionOf(d, e), fractionOf(e, d)} {
			want := text(over(rat(g), rat(parse(p).Denom())))
			if s, e := sameFactor(t, p); !areSame(s, e, of(want, "1"), api.OK) {
				t.Errorf("Factor(%s): %v, %d, not %s", p, s, e, want)
			}
		}
		_, d, e = triple(powerOf10(45), v, true)
		for _, p := range []api.Num{fractionOf(d, e), fractionOf(e, d)} {
			if s, e := sameFactor(t, p); !areSame(s, e, nil, api.ErrLimit) {
				t.Errorf("Factor(%s): %v, %d, not ErrLimit", p, s, e)
			}
		}
	}
	for _, n := range []int{46, 90, 91, 149, 150, 151, 299, 300} {
		for _, p := range []api.Num{num(tenTo(n - 1)), num(nines(n)), num("1/", tenTo(n-1)), num("1/", nines(n))} {
			if s, e := sameFactor(t, p); !areSame(s, e, nil, api.ErrLimit) {
				t.Errorf("Factor(%s): %v, %d, not ErrLimit", p, s, e)
			}
		}
	}
}

// A Root has at most 40 digits: those of the square of 20 digits, or of 10
// digits twice.
func TestP8_1RootLimits(t *testing.T) {
	r := random(2)
	seen := map[string]int{}
	for range 300 {
		p := num(anyInt(r, 19+r.IntN(4)).String())
		_, e := sameFactor(t, p)
		seen[fmt.Sprint("Factor", e)]++
		q, x := anyPitch(r, 11), anyPitch(r, 11)
		_, e = samePlan(t, q, x)
		seen[fmt.Sprint("Plan", e)]++
		for _, f := range lineFunctions() {
			_, e := f.same(t, q, x)
			seen[fmt.Sprint(f.name, e)]++
		}
	}
	for _, name := range []string{"Factor", "Hip", "Length", "Dihedral"} {
		for _, e := range []api.Errno{api.OK, api.ErrLimit} {
			if seen[fmt.Sprint(name, e)] < 10 {
				t.Errorf("%s has the error %d too seldom", name, e)
			}
		}
	}
	if seen["Plan0"] != 300 {
		t.Errorf("Plan has errors: %v", seen)
	}
}

// outcome is the error that each of the line functions should have.
type outcome struct{ hip, length, dihedral api.Errno }

// wantOutcome asks the line functions for their errors, also of exchanged
// faces.
func wantOutcome(t *testing.T, p, q api.Num, want outcome) {
	t.Helper()
	for i, e := range []api.Errno{want.hip, want.length, want.dihedral} {
		f := lineFunctions()[i]
		for _, x := range [][2]api.Num{{p, q}, {q, p}} {
			if s, g := f.same(t, x[0], x[1]); g != e {
				t.Errorf("%s(%s, %s): %v, %d, not %d", f.name, x[0], x[1], s, g, e)
			}
		}
	}
}

// The number under the root of Hip, 1/p^2 + 1/q^2, is a square.
func TestP8_1HipLimits(t *testing.T) {
	const limit = api.ErrLimit
	half := new(big.Int).Rsh(powerOf10(300), 1)
	half.Sqrt(half.Sqrt(half))
	for v := int64(2); v < 20; v += 2 {
		g, d, e := triple(powerOf10(45), v, false)
		p, q := num("1/", d.String()), num("1/", e.String())
		wantOutcome(t, p, q, outcome{hip: api.OK, length: limit, dihedral: limit})
		if s, _ := slope.Hip(p, q); !slices.Equal(s, of(num("1/", g.String()), "1")) {
			t.Errorf("Hip(%s, %s): %v, not 1/%s", p, q, s, g)
		}
		_, d, e = triple(powerOf10(45), v, true)
		wantOutcome(t, num("1/", d.String()), num("1/", e.String()), outcome{limit, limit, limit})

		// the product of the denominators' squares has 300 digits, or 301: but
		// the sum is 1
		g, d, e = triple(powerOf10(75), v, false)
		wantOutcome(t, fractionOf(g, d), fractionOf(g, e), outcome{hip: api.OK, length: limit, dihedral: limit})
		g, d, e = triple(powerOf10(75), v, true)
		wantOutcome(t, fractionOf(g, d), fractionOf(g, e), outcome{limit, limit, limit})
		// for Length twice this product occurs
		g, d, e = triple(half, v, false)
		wantOutcome(t, fractionOf(g, d), fractionOf(g, e), outcome{hip: api.OK, length: api.OK, dihedral: limit})
		g, d, e = triple(half, v, true)
		wantOutcome(t, fractionOf(g, d), fractionOf(g, e), outcome{hip: api.OK, length: limit, dihedral: limit})
	}
}

// A Coef has at most 60 digits. With x^2 + y^2 = n s^2, of which s has only
// small primes, 1/x and 1/y have the line 1/(n s) root n.
func TestP8_1CoefLimits(t *testing.T) {
	r := random(3)
	seen := map[int]int{}
	for range 400 {
		x, y := anyInt(r, 18+r.IntN(3)), anyInt(r, 18+r.IntN(3))
		for range 15 + r.IntN(25) {
			// (x + iy)(3 + 4i): the sum of the squares is multiplied by 25
			x, y = combine(x, 3, y, -4), combine(x, 4, y, 3)
		}
		p, q := num("1/", x.Abs(x).String()), num("1/", y.Abs(y).String())
		if _, e := lineFunctions()[0].same(t, p, q); e != api.OK && e != api.ErrLimit {
			t.Errorf("Hip(%s, %s): %d", p, q, e)
		}
		under := inverse(sum(inverseSquare(parse(p)), inverseSquare(parse(q))))
		if c, n := normalForm(under); isWithin(90, under) && length(n) <= 40 {
			seen[max(length(c.Num()), length(c.Denom()))]++
		}
	}
	if seen[60] == 0 || seen[61] == 0 {
		t.Errorf("Coefs of 60 or 61 digits are missing: %v", seen)
	}
}

func combine(x *big.Int, a int64, y *big.Int, b int64) *big.Int {
	s, u := new(big.Int).Mul(x, big.NewInt(a)), new(big.Int).Mul(y, big.NewInt(b))
	return s.Add(s, u)
}

// For an even a the number under the root of Length for 1/a and 2/a^2 is the
// square of a^2/2 + 1.
func TestP8_1LengthLimits(t *testing.T) {
	const limit = api.ErrLimit
	edge, _ := new(big.Int).SetString("2"+tenTo(45)[1:], 10)
	edge.Sqrt(edge)
	for i := int64(-21); i <= 21; i++ {
		a := new(big.Int).Add(edge, big.NewInt(i))
		a.Sub(a, big.NewInt(int64(a.Bit(0))))
		half := new(big.Int).Mul(a, a)
		half.Rsh(half, 1)
		p, q, want := num("1/", a.String()), num("1/", half.String()), half.Add(half, big.NewInt(1)).String()
		if len(want) > 45 {
			wantOutcome(t, p, q, outcome{limit, limit, limit})
			continue
		}
		wantOutcome(t, p, q, outcome{hip: limit, length: api.OK, dihedral: limit})
		if s, _ := slope.Length(p, q); !slices.Equal(s, of(num(want), "1")) {
			t.Errorf("Length(%s, %s): %v, not %s", p, q, s, want)
		}
	}
}

// The numbers under the root of Dihedral are squares: those of d/g for the
// pitch e/d, times those of the other one.
func TestP8_1DihedralLimits(t *testing.T) {
	const limit = api.ErrLimit
	for v := int64(2); v < 20; v += 2 {
		for _, digits := range []int64{20, 22, 30, 40} {
			g, d, e := triple(powerOf10(digits), v, false)
			h, c, b := triple(powerOf10(45-digits), v, false)
			p, q := fractionOf(e, d), fractionOf(b, c)
			want := over(times(rat(d), rat(c)), times(rat(g), rat(h)))
			s, f := lineFunctions()[2].same(t, p, q)
			if !areSame(s, f, of(text(want), "1"), api.OK) {
				t.Errorf("Dihedral(%s, %s): %v, %d, not %s", p, q, s, f, text(want))
			}
			if _, f := lineFunctions()[2].same(t, q, p); f != api.OK {
				t.Errorf("Dihedral(%s, %s): %d", q, p, f)
			}
		}
		_, d, e := triple(powerOf10(45), v, true)
		wantOutcome(t, fractionOf(e, d), "3/4", outcome{limit, limit, limit})
	}
	for _, n := range []int{76, 91, 149, 150, 151, 299, 300} {
		for _, p := range []api.Num{num(tenTo(n - 1)), num(nines(n)), num("1/", tenTo(n-1)), num("1/", nines(n))} {
			wantOutcome(t, p, "1", outcome{limit, limit, limit})
			wantOutcome(t, p, p, outcome{limit, limit, limit})
		}
	}
}

func TestP8_1PlanLimits(t *testing.T) {
	// 7^177 and 3^314 have 150 digits, 7^178 and 3^315 have 151
	power := func(n, k int64) string { return new(big.Int).Exp(big.NewInt(n), big.NewInt(k), nil).String() }
	for _, x := range []struct {
		p, q api.Num
		want api.Errno
	}{
		{num(nines(150)), num("1/", nines(150)), api.OK}, {num("1/", nines(150)), num(nines(150)), api.OK},
		{num(tenTo(150)), num("1/", tenTo(149)), api.OK}, {num(tenTo(150)), num("1/", tenTo(150)), api.ErrLimit}, {num("1/", tenTo(150)), num(tenTo(150)), api.ErrLimit},
		{num(nines(300)), "1", api.OK}, {"1", num(nines(300)), api.OK}, {num("1/", nines(300)), "1", api.OK}, {num(nines(300)), "1/2", api.ErrLimit}, {num("1/", nines(300)), "2", api.ErrLimit}, {num("1/", tenTo(299)), "9", api.OK},
		// the integers count as they are before the quotient is reduced
		{num(nines(300)), num(nines(300)), api.OK}, {num("1/", nines(300)), num("1/", nines(300)), api.OK}, {"2", num(tenTo(299)), api.OK},
		{num(power(7, 177), "/", power(3, 314)), num(power(7, 177), "/", power(3, 314)), api.OK}, {num(power(7, 178), "/", power(3, 315)), num(power(7, 178), "/", power(3, 315)), api.ErrLimit},
	} {
		if a, e := samePlan(t, x.p, x.q); e != x.want {
			t.Errorf("Plan(%s, %s): %s, %d, not %d", x.p, x.q, a, e, x.want)
		}
	}
}

func TestP8_1Inverse(t *testing.T) {
	for _, x := range []struct {
		t, want api.Surd
		e       api.Errno
	}{
		{of("1", "1"), of("1", "1"), api.OK}, {of("-1", "1"), of("-1", "1"), api.OK}, {of("2", "1"), of("1/2", "1"), api.OK}, {of("-2/3", "1"), of("-3/2", "1"), api.OK}, {of("1/7", "1"), of("7", "1"), api.OK},
		{of("1", "2"), of("1/2", "2"), api.OK}, {of("-1", "2"), of("-1/2", "2"), api.OK}, {of("1/2", "2"), of("1", "2"), api.OK}, {of("-3/4", "5"), of("-4/15", "5"), api.OK}, {of("5/6", "15"), of("2/25", "15"), api.OK}, {of("1/15", "15"), of("1", "15"), api.OK},
		// a Root stays, although it has the square of 101
		{of("1", "20402"), of("1/20402", "20402"), api.OK}, {of("3", "10403"), of("1/31209", "10403"), api.OK},
		{nil, nil, api.ErrZero}, {api.Surd{}, nil, api.ErrZero},
		{of("1", "1", "1", "2"), nil, api.ErrKind}, {of("1", "2", "-1", "3"), nil, api.ErrKind}, {of("1", "1", "1", "2", "1", "3"), nil, api.ErrKind},
		{of("1", "4"), nil, api.ErrArgument}, {of("0", "2"), nil, api.ErrArgument}, {of("0", "1"), nil, api.ErrArgument}, {of("x", "2"), nil, api.ErrArgument}, {of("1", ""), nil, api.ErrArgument}, {of("2/4", "2"), nil, api.ErrArgument}, {of("1", "-2"), nil, api.ErrArgument}, {of("1", "0"), nil, api.ErrArgument}, {of("1", "1/2"), nil, api.ErrArgument},
		{of(num(nines(61)), "2"), nil, api.ErrArgument}, {of("1", num(tenTo(40), "1")), nil, api.ErrArgument}, {of("1", "2", "1", "2"), nil, api.ErrArgument}, {of("1", "3", "1", "2"), nil, api.ErrArgument}, {of("1", "1", "0", "2"), nil, api.ErrArgument}, {of("1", "2", "1", "20402"), nil, api.ErrArgument},
	} {
		if s, e := sameInverse(t, x.t); !areSame(s, e, x.want, x.e) {
			t.Errorf("Inverse(%v): %v, %d, not %v, %d", x.t, s, e, x.want, x.e)
		}
	}
}

func TestP8_1InverseOfManyTerms(t *testing.T) {
	var l api.Surd
	for n := int64(2); len(l) <= 17; n++ {
		if big.NewInt(n).ProbablyPrime(10) {
			l = append(l, api.Term{Coef: "1", Root: text(whole(n))})
		}
	}
	for n, want := range []api.Errno{0: api.ErrZero, 1: api.OK, 2: api.ErrKind, 15: api.ErrKind, 16: api.ErrKind, 17: api.ErrArgument} {
		if n < 3 || n > 14 {
			if s, e := sameInverse(t, l[:n]); e != want {
				t.Errorf("Inverse of %d terms: %v, %d, not %d", n, s, e, want)
			}
		}
	}
}

// The inverse of c root n has the product of c and n as its denominator.
func TestP8_1InverseLimits(t *testing.T) {
	const root40 = "1000000000000000000000000000000000000003"
	for _, x := range []struct {
		c, n api.Num
		want api.Errno
	}{
		{num(nines(60)), "1", api.OK}, {num("-", nines(60)), "1", api.OK}, {num("1/", nines(60)), "1", api.OK}, {num("-1/", nines(60)), "1", api.OK},
		{num(nines(60)), "2", api.ErrLimit}, {num("-", nines(60)), "2", api.ErrLimit}, {num("4", nines(59)), "2", api.OK}, {num("5", tenTo(59)[1:]), "2", api.ErrLimit}, {num("1/", tenTo(59)), "2", api.OK},
		{num(nines(20)), root40, api.OK}, {num(tenTo(20)), root40, api.OK}, {num(nines(21)), root40, api.OK}, {num(tenTo(21)), root40, api.ErrLimit}, {num(nines(60)), root40, api.ErrLimit},
		{num("1/", nines(60)), root40, api.OK}, {num("1/", root40), root40, api.OK}, {num("7/", root40), root40, api.OK}, {num(nines(40), "/", tenTo(39)), root40, api.ErrLimit},
		// what can be reduced does not count
		{num(nines(60), "/2"), "2", api.OK}, {num(nines(60), "/2"), "6", api.ErrLimit}, {num(nines(59), "/", root40), root40, api.OK},
	} {
		if s, e := sameInverse(t, of(x.c, x.n)); e != x.want {
			t.Errorf("Inverse(%s root %s): %v, %d, not %d", x.c, x.n, s, e, x.want)
		}
	}
	r := random(4)
	for range 2000 {
		c := parse(anyPitch(r, 60))
		if r.IntN(2) == 0 {
			c.Neg(c)
		}
		_, n := normalForm(rat(anyInt(r, 1+r.IntN(40))))
		if surd.Check(of(text(c), api.Num(n.String()))) != api.OK {
			t.Fatalf("no surd: %s root %s", c, n)
		}
		sameInverse(t, of(text(c), api.Num(n.String())))
	}
}

// An argument stays as it is, and a result is new memory.
func TestP8_1Memory(t *testing.T) {
	s := of("1", "2")
	a, b := made(t)(slope.Inverse(s)), made(t)(slope.Inverse(s))
	a[0] = api.Term{Coef: "7", Root: "7"}
	if !slices.Equal(s, of("1", "2")) || !slices.Equal(b, of("1/2", "2")) {
		t.Errorf("changed: %v, %v", s, b)
	}
	x, y := made(t)(slope.Factor("1")), made(t)(slope.Factor("1"))
	x[0] = api.Term{Coef: "7", Root: "7"}
	if !slices.Equal(y, of("1", "2")) {
		t.Errorf("changed: %v", y)
	}
}

// wantEqual tells of surds that do not have the same value.
func wantEqual(t *testing.T, name string, p, q api.Num, a, b api.Surd) {
	t.Helper()
	if compare(t, a, b) != 0 {
		t.Errorf("%s of %s and %s: %v is not %v", name, p, q, a, b)
	}
}

// exact is the surd whose value is a, which is not 0.
func exact(a api.Num) api.Surd { return of(a, "1") }

func TestP8_2Factors(t *testing.T) {
	for _, p := range somePitches() {
		s := made(t)(slope.Factor(p))
		want := text(plus(whole(1), times(parse(p), parse(p))))
		if v, ok, e := surd.Value(made(t)(surd.Mul(s, s))); v != want || !ok || e != api.OK {
			t.Errorf("the square of Factor(%s): %s, %d, not %s", p, v, e, want)
		}
		if compare(t, s, exact("1")) <= 0 || compare(t, s, exact(p)) <= 0 {
			t.Errorf("Factor(%s): %v is not the longest side", p, s)
		}
	}
}

func TestP8_2Order(t *testing.T) {
	eachPair(func(p, q api.Num) {
		a, b := made(t)(slope.Factor(p)), made(t)(slope.Factor(q))
		if n := compare(t, a, b); n != parse(p).Cmp(parse(q)) {
			t.Errorf("the factors of %s and %s: %d", p, q, n)
		}
	})
}

func TestP8_3Lines(t *testing.T) {
	eachPair(func(p, q api.Num) {
		s := made(t)(slope.Hip(p, q))
		if compare(t, s, nil) <= 0 || compare(t, s, exact(p)) >= 0 || compare(t, s, exact(q)) >= 0 {
			t.Errorf("Hip(%s, %s): %v is not flatter than both", p, q, s)
		}
	})
	// a steeper face makes the line steeper
	for _, q := range somePitches() {
		a, b := made(t)(slope.Hip("3/4", q)), made(t)(slope.Hip("1", q))
		if compare(t, a, b) >= 0 {
			t.Errorf("with %s: %v is not less than %v", q, a, b)
		}
	}
}

func TestP8_3EqualPitches(t *testing.T) {
	for _, p := range somePitches() {
		s := made(t)(slope.Hip(p, p))
		wantEqual(t, "Hip", p, p, s, made(t)(surd.Scale(of("1/2", "2"), p)))
		if a, e := slope.Plan(p, p); a != "1" || e != api.OK {
			t.Errorf("Plan(%s, %s): %s, %d", p, p, a, e)
		}
	}
}

// Where the line has risen by 1 it is 1/p away from the first eaves, and 1/q
// from the second one.
func TestP8_3Distances(t *testing.T) {
	eachPair(func(p, q api.Num) {
		x, y := over(whole(1), parse(p)), over(whole(1), parse(q))
		s := made(t)(slope.Inverse(made(t)(slope.Hip(p, q))))
		want := text(plus(times(x, x), times(y, y)))
		if v, ok, e := surd.Value(made(t)(surd.Mul(s, s))); v != want || !ok || e != api.OK {
			t.Errorf("the plan length for %s and %s: %s, %d, not %s", p, q, v, e, want)
		}
		if a := number(t)(slope.Plan(p, q)); a != text(over(x, y)) {
			t.Errorf("Plan(%s, %s): %s", p, q, a)
		}
	})
}

func TestP8_4Lengths(t *testing.T) {
	eachPair(func(p, q api.Num) {
		s := made(t)(slope.Length(p, q))
		plan := made(t)(slope.Inverse(made(t)(slope.Hip(p, q))))
		squares := made(t)(surd.Add(exact("1"), made(t)(surd.Mul(plan, plan))))
		wantEqual(t, "the square of Length", p, q, made(t)(surd.Mul(s, s)), squares)
		if compare(t, s, nil) <= 0 {
			t.Errorf("Length(%s, %s): %v", p, q, s)
		}
	})
}

func TestP8_5Exchange(t *testing.T) {
	eachPair(func(p, q api.Num) {
		for _, f := range lineFunctions() {
			a, b := made(t)(f.call(p, q)), made(t)(f.call(q, p))
			if !slices.Equal(a, b) {
				t.Errorf("%s of %s and %s: %v, exchanged %v", f.name, p, q, a, b)
			}
		}
		a, b := number(t)(slope.Plan(p, q)), number(t)(slope.Plan(q, p))
		if c, e := rational.Mul(a, b); c != "1" || e != api.OK {
			t.Errorf("Plan of %s and %s: %s, exchanged %s", p, q, a, b)
		}
	})
}

// Long numbers have limits also when they are exchanged.
func TestP8_5ExchangeAtLimits(t *testing.T) {
	r := random(5)
	for range 300 {
		p, q := anyPitch(r, 90), anyPitch(r, 90)
		for _, f := range lineFunctions() {
			a, e := f.same(t, p, q)
			b, g := f.same(t, q, p)
			if !areSame(a, e, b, g) {
				t.Errorf("%s of %s and %s: %v, %d, exchanged %v, %d", f.name, p, q, a, e, b, g)
			}
		}
	}
}

func TestP8_6Dihedrals(t *testing.T) {
	eachPair(func(p, q api.Num) {
		level := made(t)(slope.Inverse(made(t)(slope.Factor(p))))
		other := made(t)(slope.Inverse(made(t)(slope.Factor(q))))
		s := made(t)(slope.Dihedral(p, q))
		wantEqual(t, "Dihedral", p, q, s, made(t)(surd.Mul(level, other)))
		if compare(t, s, nil) <= 0 || compare(t, s, exact("1")) >= 0 {
			t.Errorf("Dihedral(%s, %s): %v", p, q, s)
		}
	})
}

// someTerms are surds of one term whose inverses are within the limits.
func someTerms() []api.Surd {
	out := []api.Surd{of(num(nines(60)), "1"), of(num("1/", nines(60)), "2"), of("-1", "20402"), of("-7/3", "10403"), of("1/1000", "99990001")}
	r := random(6)
	for range 300 {
		c := parse(anyPitch(r, 15))
		if r.IntN(2) == 0 {
			c.Neg(c)
		}
		_, n := normalForm(rat(anyInt(r, 1+r.IntN(20))))
		out = append(out, of(text(c), api.Num(n.String())))
	}
	return out
}

func TestP8_7Inverses(t *testing.T) {
	for _, s := range someTerms() {
		i := made(t)(slope.Inverse(s))
		if a := made(t)(surd.Mul(s, i)); !slices.Equal(a, exact("1")) {
			t.Errorf("%v times its inverse %v: %v", s, i, a)
		}
		if a := made(t)(slope.Inverse(i)); !slices.Equal(a, s) {
			t.Errorf("the inverse of the inverse of %v: %v", s, a)
		}
	}
}

func TestP8_8Order(t *testing.T) {
	eachPitch(func(rise, run int) {
		p := number(t)(slope.Of(rise, run))
		eachPitch(func(rise2, run2 int) {
			n, e := slope.Compare(rise, run, rise2, run2)
			if want, f := order(rise, run, rise2, run2); n != want || e != f {
				t.Errorf("Compare(%d, %d, %d, %d): %d, %d, not %d", rise, run, rise2, run2, n, e, want)
			}
		})
		q := number(t)(slope.Of(run, rise))
		n, _ := slope.Compare(rise, run, run, rise)
		if want, e := rational.Compare(p, q); n != want || e != api.OK {
			t.Errorf("Compare of %s and %s: %d, not %d", p, q, n, want)
		}
	})
}
