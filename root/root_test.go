package root_test

import (
	"math/big"
	"math/rand/v2"
	"slices"
	"strings"
	"testing"

	"kingpost/api"
	"kingpost/rational"
	"kingpost/root"
)

// The results are compared with those of math/big, which are computed by the
// definitions of the chapter, and with each other as the promises say.

func nines(n int) string          { return strings.Repeat("9", n) }
func tenTo(n int) string          { return "1" + strings.Repeat("0", n) }
func num(parts ...string) api.Num { return api.Num(strings.Join(parts, "")) }
func random(n uint) *rand.Rand    { return rand.New(rand.NewPCG(uint64(n), 30)) }

func parse(a api.Num) *big.Rat {
	r, ok := new(big.Rat).SetString(string(a))
	if !ok {
		panic("no number: " + string(a))
	}
	return r
}

func text(r *big.Rat) api.Num { return api.Num(r.RatString()) }

func plus(a, b *big.Rat) *big.Rat  { return new(big.Rat).Add(a, b) }
func times(a, b *big.Rat) *big.Rat { return new(big.Rat).Mul(a, b) }
func over(a, b *big.Rat) *big.Rat  { return new(big.Rat).Quo(a, b) }
func square(a *big.Rat) *big.Rat   { return times(a, a) }

func power(n, k int64) *big.Int { return new(big.Int).Exp(big.NewInt(n), big.NewInt(k), nil) }

// floor is the greatest integer that is at most a.
func floor(a *big.Rat) *big.Int {
	q, _ := new(big.Int).DivMod(a.Num(), a.Denom(), new(big.Int))
	return q
}

// exactRoot is the root of q, or nil if it is not rational.
func exactRoot(q *big.Rat) *big.Rat {
	r := new(big.Rat).SetFrac(new(big.Int).Sqrt(q.Num()), new(big.Int).Sqrt(q.Denom()))
	if square(r).Cmp(q) != 0 {
		return nil
	}
	return r
}

func isPrime(n int64) bool { return big.NewInt(n).ProbablyPrime(1) }

// normalForm returns c and n as the chapter defines them.
func normalForm(q *big.Rat) (*big.Rat, *big.Int) {
	if q.Sign() == 0 {
		return new(big.Rat), big.NewInt(1)
	}
	left := new(big.Int).Mul(q.Num(), q.Denom())
	for p := range int64(100) {
		for isPrime(p) {
			rest, isRest := new(big.Int).QuoRem(left, big.NewInt(p*p), new(big.Int))
			if isRest.Sign() != 0 {
				break
			}
			left = rest
		}
	}
	if exactRoot(new(big.Rat).SetInt(left)) != nil {
		left = big.NewInt(1)
	}
	return exactRoot(over(q, new(big.Rat).SetInt(left))), left
}

// floorOf is the greatest multiple of u that is at most the root of q.
func floorOf(q, u *big.Rat) *big.Rat {
	count := new(big.Int).Sqrt(floor(over(q, square(u))))
	return times(new(big.Rat).SetInt(count), u)
}

// nearestOf is the multiple of u that is nearest to the root of q.
func nearestOf(q, u *big.Rat) *big.Rat {
	low := floorOf(q, u)
	if middle := plus(low, times(u, big.NewRat(1, 2))); square(middle).Cmp(q) <= 0 {
		return plus(low, u)
	}
	return low
}

// betweenOf is the range that the root of q has with so many places.
func betweenOf(q *big.Rat, places int) api.Range {
	u := parse(num("1/", tenTo(places)))
	low := floorOf(q, u)
	if square(low).Cmp(q) == 0 {
		return api.Range{Low: text(low), High: text(low)}
	}
	return api.Range{Low: text(low), High: text(plus(low, u))}
}

// order is -1, 0 or 1, as a root p is less than, equal to, or greater than
// b root q.
func order(a, p, b, q *big.Rat) int {
	left, right := a.Sign()*p.Sign(), b.Sign()*q.Sign()
	if left != right {
		return big.NewInt(int64(left)).Cmp(big.NewInt(int64(right)))
	}
	return left * times(square(a), p).Cmp(times(square(b), q))
}

// digits returns n digits in which runs of 0 and of 9 are frequent.
func digits(r *rand.Rand, n int) string {
	out := []byte{byte('1' + r.IntN(9))}
	for len(out) < n {
		kind, length := r.IntN(4), 1+r.IntN(12)
		for range length {
			switch kind {
			case 0:
				out = append(out, '0')
			case 1:
				out = append(out, '9')
			default:
				out = append(out, byte('0'+r.IntN(10)))
			}
		}
	}
	return string(out[:n])
}

// anyNumber returns a positive number with at most so many digits.
func anyNumber(r *rand.Rand, most int) api.Num {
	a := parse(num(digits(r, 1+r.IntN(most)), "/", digits(r, 1+r.IntN(most))))
	if r.IntN(3) == 0 {
		a.SetInt(a.Num())
	}
	return text(a)
}

// withSquares returns a number like anyNumber, whose parts have square factors.
func withSquares(r *rand.Rand, most int) api.Num {
	a := parse(anyNumber(r, max(1, most/4)))
	for range 3 {
		s := big.NewRat(1+r.Int64N(120), 1+r.Int64N(120))
		if b := times(a, square(s)); isShort(text(b), most) {
			a = b
		}
	}
	return text(a)
}

func isShort(a api.Num, most int) bool {
	n, d, _ := strings.Cut(strings.TrimPrefix(string(a), "-"), "/")
	return len(n) <= most && len(d) <= most
}

// radicands returns numbers that are not negative: the chapter's cases, and
// random ones of all lengths.
func radicands() []api.Num {
	out := []api.Num{
		"0", "1", "2", "3", "4", "8", "1/2", "9/4", "72", "12/25", "3/8", "1/4", "6/25", "49/100", "1/9", "10/9", "99", "100", "101",
		// squares of primes on both sides of 100, and of one under the square of another
		"9409", "10201", "18818", "20402", "81608", "1/9409", "1/10201", "10201/2", "2/10201", "9409/10201", "10201/9409", "20402/9409",
		"10201/10609", "10201/11", "7/10609", "1030301", "104060401", "1061208", "13/1030301", "88529281", "9604", "9801", "1/9604",
		"81", "27", "1/27", "1/81", "27/8", "8/27", "16/27", "27/16", "97", "1/97", "912673", "12769/98", "6561/10000",
	}
	for _, p := range []int64{2, 3, 7, 89, 97, 101, 103, 10007} {
		for k := int64(1); len(power(p, k).String()) <= 90; k += 1 + k/8 {
			out = append(out, num(power(p, k).String()), num("1/", power(p, k).String()), text(new(big.Rat).SetFrac(power(p, k), power(p+1, k))))
		}
	}
	// around the squares of 10^n, and at the ends of the machine's integers
	for _, n := range []int{3, 8, 9, 10, 16, 17, 18, 19, 20, 36, 45, 88, 89, 90} {
		for _, a := range []string{tenTo(n), nines(n), "1" + nines(n), tenTo(n-1) + "1"} {
			out = append(out, num(a), num("1/", a), num(a, "/", "4"), num("25/", a))
		}
	}
	for _, k := range []int64{31, 32, 53, 59, 60, 61, 62, 63, 64} {
		out = append(out, num(power(2, k).String()), num(new(big.Int).Sub(power(2, k), big.NewInt(1)).String()))
	}
	// squares of exactly 90 digits, and their neighbours
	root := new(big.Int).Sqrt(parse(num(nines(90))).Num())
	full := new(big.Int).Mul(root, root)
	out = append(out, num(full.String()), num("1/", full.String()), num(new(big.Int).Add(full, big.NewInt(1)).String()))
	out = append(out, num(nines(90)), num("1/", nines(90)), num(tenTo(89), "/", nines(90)), num(nines(90), "/", tenTo(89)))
	r := random(1)
	for range 120 {
		out = append(out, anyNumber(r, 6), anyNumber(r, 20), anyNumber(r, 90), withSquares(r, 18), withSquares(r, 90))
		s := parse(anyNumber(r, 45))
		out = append(out, text(square(s)), text(square(parse(anyNumber(r, 5)))))
	}
	out = slices.DeleteFunc(out, func(a api.Num) bool { return rational.Check(a) != api.OK || !isShort(a, 90) })
	slices.Sort(out)
	return slices.Compact(out)
}

// units returns positive numbers.
func units() []api.Num {
	out := []api.Num{"1", "2", "3", "1/2", "2/3", "7", "1/10", "1/100", "5/4", "1/48", "1000", "97/101", num(tenTo(9)), num("1/", tenTo(18)), num("1/", tenTo(19))}
	out = append(out, num(nines(90)), num("1/", nines(90)), num(nines(90), "/", tenTo(89)), num(tenTo(89), "/", nines(90)))
	r := random(2)
	for range 6 {
		out = append(out, anyNumber(r, 3), anyNumber(r, 20), anyNumber(r, 90))
	}
	return out
}

func normal(t *testing.T, q api.Num) (c, n *big.Rat) {
	t.Helper()
	a, b, e := root.Normal(q)
	if e != api.OK || rational.Check(a) != api.OK || rational.Check(b) != api.OK {
		t.Fatalf("Normal(%s): %q, %q, %d", q, a, b, e)
	}
	return parse(a), parse(b)
}

func compare(t *testing.T, a, p, b, q api.Num) int {
	t.Helper()
	n, e := root.Compare(a, p, b, q)
	if e != api.OK {
		t.Fatalf("Compare(%s, %s, %s, %s): error %d", a, p, b, q, e)
	}
	return n
}

// ratio returns the ratio, or nil if there is none.
func ratio(t *testing.T, p, q api.Num) *big.Rat {
	t.Helper()
	c, is, e := root.Ratio(p, q)
	if e != api.OK || is != (c != "") || is && rational.Check(c) != api.OK {
		t.Fatalf("Ratio(%s, %s): %q, %v, %d", p, q, c, is, e)
	}
	if !is {
		return nil
	}
	return parse(c)
}

func value(t *testing.T) func(a api.Num, e api.Errno) *big.Rat {
	return func(a api.Num, e api.Errno) *big.Rat {
		t.Helper()
		if e != api.OK || rational.Check(a) != api.OK {
			t.Fatalf("result %q, error %d", a, e)
		}
		return parse(a)
	}
}

func between(t *testing.T, q api.Num, places int) (low, high *big.Rat) {
	t.Helper()
	r, e := root.Between(q, places)
	if e != api.OK || rational.Check(r.Low) != api.OK || rational.Check(r.High) != api.OK {
		t.Fatalf("Between(%s, %d): %v, %d", q, places, r, e)
	}
	return parse(r.Low), parse(r.High)
}

// arguments are of all the kinds that errors depend on.
func arguments() []api.Num {
	return []api.Num{
		"2", "0", "1/3", "-3", "-1/2", num(nines(90)), num("-", nines(90)), num("1/", nines(90)), num("-7/", tenTo(89)), num("-", nines(90), "/", tenTo(89)),
		num(nines(91)), num("-", nines(91)), num("1/", tenTo(90)), num("-1/", nines(91)), num(nines(300)), num("1/", nines(300)),
		num(nines(301)), num("-1/", nines(301)),
		"", "-0", "2/4", "1/1", "x", "1/0", num("3/", nines(91)), num(nines(91), "/3"), num("-", nines(301), "x"),
	}
}

// argumentError is the first error that one of the numbers has by itself.
func argumentError(numbers ...api.Num) api.Errno {
	for _, a := range numbers {
		if e := rational.Check(a); e != api.OK {
			return e
		}
		if !isShort(a, 90) {
			return api.ErrLimit
		}
	}
	return api.OK
}

// rootError is ErrRange if a number is negative.
func rootError(numbers ...api.Num) api.Errno {
	for _, a := range numbers {
		if strings.HasPrefix(string(a), "-") {
			return api.ErrRange
		}
	}
	return api.OK
}

// first is the first one of errors.
func first(errors ...api.Errno) api.Errno {
	for _, e := range errors {
		if e != api.OK {
			return e
		}
	}
	return api.OK
}

func TestP3_1ErrorsOfOneNumber(t *testing.T) {
	for _, q := range arguments() {
		want := first(argumentError(q), rootError(q))
		c, n, e := root.Normal(q)
		if e != want || e != api.OK && (c != "" || n != "") {
			t.Errorf("Normal(%q): %q, %q, %d, not %d", q, c, n, e, want)
		}
		c, is, e := root.Exact(q)
		if e != want || e != api.OK && (c != "" || is) {
			t.Errorf("Exact(%q): %q, %v, %d, not %d", q, c, is, e, want)
		}
		for _, places := range []int{-1 << 63, -100, -1, 0, 1, 99, api.MaxPlaces, api.MaxPlaces + 1, 200, 1<<63 - 1} {
			want := want
			if want == api.OK && (places < 0 || places > 100) {
				want = api.ErrRange
			}
			r, e := root.Between(q, places)
			if e != want || e != api.OK && r != (api.Range{}) {
				t.Errorf("Between(%q, %d): %v, %d, not %d", q, places, r, e, want)
			}
		}
	}
}

func TestP3_1ErrorsOfTwoNumbers(t *testing.T) {
	for _, p := range arguments() {
		for _, q := range arguments() {
			want := first(argumentError(p, q), rootError(p, q))
			if want == api.OK && q == "0" {
				want = api.ErrZero
			}
			c, is, e := root.Ratio(p, q)
			if e != want || e != api.OK && (c != "" || is) {
				t.Errorf("Ratio(%q, %q): %q, %v, %d, not %d", p, q, c, is, e, want)
			}
			want = first(argumentError(p, q), rootError(p))
			if want == api.OK && (q == "0" || q[0] == '-') {
				want = api.ErrZero
			}
			if c, e := root.Floor(p, q); e != want || e != api.OK && c != "" {
				t.Errorf("Floor(%q, %q): %q, %d, not %d", p, q, c, e, want)
			}
			if c, e := root.Nearest(p, q); e != want || e != api.OK && c != "" {
				t.Errorf("Nearest(%q, %q): %q, %d, not %d", p, q, c, e, want)
			}
		}
	}
}

func TestP3_1ErrorsOfCompare(t *testing.T) {
	list := slices.DeleteFunc(arguments(), func(a api.Num) bool { return len(a) > 91 && isShort(a, 90) })
	for _, a := range list {
		for _, p := range list {
			for _, b := range list {
				for _, q := range list {
					want := first(argumentError(a, p, b, q), rootError(p, q))
					n, e := root.Compare(a, p, b, q)
					if e != want || e != api.OK && n != 0 {
						t.Fatalf("Compare(%q, %q, %q, %q): %d, %d, not %d", a, p, b, q, n, e, want)
					}
				}
			}
		}
	}
}

func TestP3_2Examples(t *testing.T) {
	for _, x := range []struct{ q, c, n api.Num }{
		{"0", "0", "1"}, {"1", "1", "1"}, {"2", "1", "2"}, {"8", "2", "2"}, {"1/2", "1/2", "2"}, {"9/4", "3/2", "1"}, {"72", "6", "2"},
		{"12/25", "2/5", "3"}, {"3/8", "1/4", "6"}, {"32/27", "4/9", "6"}, {"9409", "97", "1"}, {"18818", "97", "2"}, {"2/9409", "1/97", "2"},
		{"10201", "101", "1"}, {"20402", "1", "20402"}, {"40804", "202", "1"}, {"81608", "2", "20402"}, {"20402/9", "1/3", "20402"},
		// the square of 101 is in one part, and what is left is no square
		{"10201/2", "1/2", "20402"}, {"2/10201", "1/10201", "20402"}, {"10201/4", "101/2", "1"}, {"10609/10201", "103/101", "1"},
		{"10609/20402", "1/20402", "216444818"},
		{num(power(2, 298).String()), num(power(2, 149).String()), "1"}, {num(power(2, 297).String()), num(power(2, 148).String()), "2"},
		{num("1/", power(3, 187).String()), num("1/", power(3, 94).String()), "3"}, {num(power(97, 45).String()), num(power(97, 22).String()), "97"},
		{num(tenTo(89)), num(tenTo(44)), "10"}, {num("1/", tenTo(89)), num("1/", tenTo(45)), "10"}, {num(tenTo(88), "/9"), num(tenTo(44), "/3"), "1"},
	} {
		if c, n, e := root.Normal(x.q); c != x.c || n != x.n || e != api.OK {
			t.Errorf("Normal(%s): %s, %s, %d, not %s, %s", x.q, c, n, e, x.c, x.n)
		}
	}
}

func TestP3_2NormalForms(t *testing.T) {
	for _, q := range radicands() {
		c, n := normal(t, q)
		wantC, wantN := normalForm(parse(q))
		if c.Cmp(wantC) != 0 || text(n) != api.Num(wantN.String()) {
			t.Errorf("Normal(%s): %s, %s, not %s, %s", q, text(c), text(n), text(wantC), wantN)
		}
		if times(square(c), n).Cmp(parse(q)) != 0 || n.Sign() <= 0 || !n.IsInt() || c.Sign() < 0 {
			t.Errorf("Normal(%s): %s, %s", q, text(c), text(n))
		}
		for p := range int64(100) {
			if isPrime(p) && over(n, big.NewRat(p*p, 1)).IsInt() {
				t.Errorf("Normal(%s): %s has the square of %d", q, text(n), p)
			}
		}
		if !isShort(text(n), 90) {
			continue
		}
		if again, m := normal(t, text(n)); text(again) != "1" || m.Cmp(n) != 0 {
			t.Errorf("%s of %s is not normal", text(n), q)
		}
	}
}

func TestP3_2SquareFactors(t *testing.T) {
	for _, q := range []api.Num{"2", "3", "15", "1/2", "2/3", "101", "7/103", "30/101", num(nines(19)), num("7/", nines(37))} {
		c, n := normal(t, q)
		for p := range int64(100) {
			if !isPrime(p) {
				continue
			}
			for _, s := range []*big.Rat{big.NewRat(p, 1), big.NewRat(1, p), big.NewRat(p*p*p, 1), big.NewRat(1, p*p*97)} {
				d, m := normal(t, text(times(parse(q), square(s))))
				if m.Cmp(n) != 0 || d.Cmp(times(c, s)) != 0 {
					t.Errorf("%s times the square of %s: %s root %s", q, text(s), text(d), text(m))
				}
			}
		}
	}
}

func TestP3_3ExactRoots(t *testing.T) {
	for _, q := range radicands() {
		c, is, e := root.Exact(q)
		want := exactRoot(parse(q))
		_, n := normal(t, q)
		if e != api.OK || is != (want != nil) || is != (text(n) == "1") {
			t.Errorf("Exact(%s): %s, %v, %d", q, c, is, e)
		} else if !is && c != "" || is && c != text(want) {
			t.Errorf("Exact(%s): %s", q, c)
		}
	}
}

func TestP3_3RootsOfSquares(t *testing.T) {
	r := random(3)
	list := []api.Num{"0", "1", "2", "1/2", "3/2", "97", "101", "97/101", num(nines(45)), num("1/", nines(45)), num(nines(45), "/", tenTo(44))}
	for range 400 {
		list = append(list, anyNumber(r, 9), anyNumber(r, 45))
	}
	for _, a := range list {
		q := square(parse(a))
		if c, is, e := root.Exact(text(q)); c != a || !is || e != api.OK {
			t.Errorf("Exact(%s): %s, %v, %d, not %s", text(q), c, is, e, a)
		}
		for _, f := range []*big.Rat{big.NewRat(2, 1), big.NewRat(1, 3), big.NewRat(5, 7)} {
			no := text(times(q, f))
			if a == "0" || !isShort(no, 90) {
				continue
			}
			if c, is, e := root.Exact(no); c != "" || is || e != api.OK {
				t.Errorf("Exact(%s): %s, %v, %d", no, c, is, e)
			}
		}
	}
}

func TestP3_4Ratios(t *testing.T) {
	list := radicands()
	r := random(4)
	for range 6000 {
		p, q := list[r.IntN(len(list))], list[r.IntN(len(list))]
		if q == "0" {
			continue
		}
		c := ratio(t, p, q)
		want := exactRoot(over(parse(p), parse(q)))
		if (c == nil) != (want == nil) || c != nil && c.Cmp(want) != 0 {
			t.Fatalf("Ratio(%s, %s): %v, not %v", p, q, c, want)
		}
	}
	for _, x := range []struct {
		p, q, c api.Num
		is      bool
	}{
		{"8", "2", "2", true}, {"2", "8", "1/2", true}, {"0", "3", "0", true}, {"0", "1/3", "0", true}, {"3", "2", "", false}, {"4", "2", "", false},
		{"20402", "2", "101", true}, {"2", "20402", "1/101", true}, {"1/2", "2", "1/2", true}, {"12/5", "5/3", "6/5", true}, {"7", "7", "1", true},
		{num(nines(90)), num("1/", nines(90)), num(nines(90)), true}, {num("1/", nines(90)), num(nines(90)), num("1/", nines(90)), true},
	} {
		if c, is, e := root.Ratio(x.p, x.q); c != x.c || is != x.is || e != api.OK {
			t.Errorf("Ratio(%s, %s): %s, %v, %d", x.p, x.q, c, is, e)
		}
	}
}

func TestP3_4RatiosOfThree(t *testing.T) {
	r := random(5)
	for range 800 {
		p := parse(anyNumber(r, 30))
		q, s := times(p, square(parse(anyNumber(r, 15)))), times(p, square(parse(anyNumber(r, 15))))
		a, b, c := ratio(t, text(p), text(q)), ratio(t, text(q), text(s)), ratio(t, text(p), text(s))
		if a == nil || b == nil || c == nil || times(a, b).Cmp(c) != 0 {
			t.Fatalf("%s, %s, %s: %v times %v is not %v", text(p), text(q), text(s), a, b, c)
		}
		if times(square(a), q).Cmp(p) != 0 || times(a, ratio(t, text(q), text(p))).Cmp(big.NewRat(1, 1)) != 0 {
			t.Fatalf("%s, %s: %v", text(p), text(q), a)
		}
		if no := text(times(q, big.NewRat(7, 3))); ratio(t, text(p), no) != nil || ratio(t, no, text(p)) != nil {
			t.Fatalf("%s, %s have a ratio", text(p), no)
		}
	}
}

// factors are numbers of both signs.
func factors() []api.Num {
	out := []api.Num{"0", "1", "-1", "3/2", "-3/2", "7/5", "-7/5", "1/1000", num(nines(18)), num("-", nines(19)), num(nines(90)), num("-1/", nines(90)), num(tenTo(89), "/", nines(90))}
	r := random(6)
	for range 8 {
		out = append(out, anyNumber(r, 5), "-"+anyNumber(r, 20), anyNumber(r, 90), "-"+anyNumber(r, 90))
	}
	return out
}

func TestP3_5Order(t *testing.T) {
	list, by := radicands(), factors()
	r := random(7)
	for range 20000 {
		a, b, p, q := by[r.IntN(len(by))], by[r.IntN(len(by))], list[r.IntN(len(list))], list[r.IntN(len(list))]
		want := order(parse(a), parse(p), parse(b), parse(q))
		if n := compare(t, a, p, b, q); n != want {
			t.Fatalf("Compare(%s, %s, %s, %s): %d, not %d", a, p, b, q, n, want)
		}
		if n := compare(t, b, q, a, p); n != -want {
			t.Fatalf("Compare(%s, %s, %s, %s): %d, not %d", b, q, a, p, n, -want)
		}
	}
	for _, x := range []struct {
		a, p, b, q api.Num
		want       int
	}{
		{"1", "2", "3/2", "1", -1}, {"7/5", "1", "1", "2", -1}, {"2", "2", "1", "8", 0}, {"-2", "2", "-1", "8", 0}, {"2", "2", "-1", "8", 1}, {"-2", "2", "1", "8", -1},
		{"-1", "2", "-3/2", "1", 1}, {"-1", "2", "1", "0", -1}, {"1", "0", "-1", "2", 1}, {"0", "7", "5", "0", 0}, {"0", "7", "-5", "0", 0}, {"-1", "0", "1", "0", 0},
		{"0", "0", "0", "0", 0}, {"1", "3", "-9", "100", 1}, {"0", "5", "1", "1/1000", -1}, {"0", "5", "-1", "1/1000", 1}, {"5", "5", "0", "9", 1}, {"-5", "5", "0", "9", -1},
		{"3", "7", "3", "7", 0}, {"-3/2", "7/3", "-3/2", "7/3", 0}, {"1", "101", "1/101", "1030301", 0},
	} {
		if n := compare(t, x.a, x.p, x.b, x.q); n != x.want {
			t.Errorf("Compare(%s, %s, %s, %s): %d, not %d", x.a, x.p, x.b, x.q, n, x.want)
		}
	}
}

// neighbours are roots that agree in nearly all their digits, and equal ones,
// whose parts are as long as they may be.
func TestP3_5OrderOfNeighbours(t *testing.T) {
	r := random(8)
	one := big.NewInt(1)
	for range 300 {
		n, d := parse(num(digits(r, 88))).Num(), parse(num(digits(r, 88))).Num()
		near := new(big.Rat).SetFrac(new(big.Int).Add(n, one), new(big.Int).Add(d, one))
		a, p, x := text(new(big.Rat).SetFrac(n, d)), anyNumber(r, 90), text(near)
		want := parse(a).Cmp(near)
		if compare(t, a, p, x, p) != want || compare(t, "-"+a, p, "-"+x, p) != -want || compare(t, p, a, p, x) != want || compare(t, "-"+p, a, "-"+p, x) != -want {
			t.Fatalf("%s, %s with %s", a, x, p)
		}
		// a root p = (a s) root (p / s^2)
		s := parse(anyNumber(r, 2))
		b, q := text(times(parse(a), s)), text(over(parse(p), square(s)))
		if isShort(b, 90) && isShort(q, 90) && (compare(t, a, p, b, q) != 0 || compare(t, "-"+a, p, "-"+b, q) != 0) {
			t.Fatalf("%s root %s is not %s root %s", a, p, b, q)
		}
	}
}

func TestP3_5OrderOfMultiples(t *testing.T) {
	r := random(9)
	for range 3000 {
		a, b, p, q, c := anyNumber(r, 3), anyNumber(r, 3), anyNumber(r, 2), anyNumber(r, 2), anyNumber(r, 80)
		if r.IntN(2) == 0 {
			a = "-" + a
		}
		n := compare(t, a, p, b, q)
		ac, bc := text(times(parse(a), parse(c))), text(times(parse(b), parse(c)))
		if compare(t, ac, p, bc, q) != n {
			t.Fatalf("Compare(%s, %s, %s, %s) is not %d", ac, p, bc, q, n)
		}
		ac, bc = text(new(big.Rat).Neg(parse(ac))), text(new(big.Rat).Neg(parse(bc)))
		if compare(t, ac, p, bc, q) != -n {
			t.Fatalf("Compare(%s, %s, %s, %s) is not %d", ac, p, bc, q, -n)
		}
		// With a third root in between, the order of the outer ones is known.
		x, y := anyNumber(r, 2), anyNumber(r, 2)
		if compare(t, a, p, x, y) <= 0 && compare(t, x, y, b, q) <= 0 && n > 0 {
			t.Fatalf("%s root %s, %s root %s, %s root %s", a, p, x, y, b, q)
		}
	}
}

func TestP3_6Floors(t *testing.T) {
	for _, q := range radicands() {
		for _, u := range units() {
			f, want := value(t)(root.Floor(q, u)), floorOf(parse(q), parse(u))
			if f.Cmp(want) != 0 {
				t.Fatalf("Floor(%s, %s): %s, not %s", q, u, text(f), text(want))
			}
			next := plus(f, parse(u))
			if !over(f, parse(u)).IsInt() || f.Sign() < 0 || square(f).Cmp(parse(q)) > 0 || square(next).Cmp(parse(q)) <= 0 {
				t.Fatalf("Floor(%s, %s): %s", q, u, text(f))
			}
		}
	}
	for _, x := range []struct{ q, unit, want api.Num }{
		{"2", "1/100", "141/100"}, {"2", "1", "1"}, {"2", "3/2", "0"}, {"2", "7/5", "7/5"}, {"9/4", "3/2", "3/2"}, {"9/4", "1/2", "3/2"}, {"9/4", "8/5", "0"},
		{"0", "5", "0"}, {"0", "1/5", "0"}, {"100", "7", "7"}, {"16", "2/3", "4"}, {"16", "3/2", "3"}, {"99", "1", "9"}, {"100", "1", "10"},
		{num(nines(90)), "1", num(nines(45))}, {num(nines(90)), num(nines(90)), "0"}, {num("1/", nines(90)), num("1/", nines(90)), num("1/", tenTo(44), "1")},
	} {
		if f, e := root.Floor(x.q, x.unit); f != x.want || e != api.OK {
			t.Errorf("Floor(%s, %s): %s, %d, not %s", x.q, x.unit, f, e, x.want)
		}
	}
}

func TestP3_7Nearest(t *testing.T) {
	half := big.NewRat(1, 2)
	for _, q := range radicands() {
		for _, u := range units() {
			f, want := value(t)(root.Nearest(q, u)), nearestOf(parse(q), parse(u))
			if f.Cmp(want) != 0 {
				t.Fatalf("Nearest(%s, %s): %s, not %s", q, u, text(f), text(want))
			}
			above, below := plus(f, times(half, parse(u))), plus(f, times(big.NewRat(-1, 2), parse(u)))
			if !over(f, parse(u)).IsInt() || square(above).Cmp(parse(q)) <= 0 || below.Sign() > 0 && square(below).Cmp(parse(q)) > 0 {
				t.Fatalf("Nearest(%s, %s): %s", q, u, text(f))
			}
		}
	}
	for _, x := range []struct{ q, unit, want api.Num }{
		{"3", "1", "2"}, {"2", "1", "1"}, {"2", "1/100", "141/100"}, {"7", "1/100", "53/20"}, {"0", "5", "0"}, {"2", "5", "0"}, {"2", "2", "2"}, {"16", "2/3", "4"},
		// halves
		{"1/4", "1", "1"}, {"9/4", "1", "2"}, {"25/4", "1", "3"}, {"1", "2", "2"}, {"9", "2", "4"}, {"1/16", "1/2", "1/2"}, {"9/16", "1/2", "1"}, {"1/9", "2/3", "2/3"}, {"1", "2/3", "4/3"},
		{"24/100", "1", ""}, {"6/25", "1", "0"}, {"251/1000", "1", "1"},
	} {
		if f, e := root.Nearest(x.q, x.unit); f != x.want || (e == api.OK) != (x.want != "") {
			t.Errorf("Nearest(%s, %s): %s, %d, not %s", x.q, x.unit, f, e, x.want)
		}
	}
}

func TestP3_7Halves(t *testing.T) {
	r := random(10)
	for range 400 {
		u := parse(anyNumber(r, 1+r.IntN(20)))
		middle := times(u, big.NewRat(2*r.Int64N(1<<40)+1, 2))
		up := plus(middle, times(u, big.NewRat(1, 2)))
		q := square(middle)
		if f := value(t)(root.Nearest(text(q), text(u))); f.Cmp(up) != 0 {
			t.Fatalf("Nearest(%s, %s): %s", text(q), text(u), text(f))
		}
		less := times(q, new(big.Rat).SetFrac(power(10, 5).Sub(power(10, 5), big.NewInt(1)), power(10, 5)))
		if f := value(t)(root.Nearest(text(less), text(u))); f.Cmp(nearestOf(less, u)) != 0 {
			t.Fatalf("Nearest(%s, %s): %s", text(less), text(u), text(f))
		}
	}
}

func TestP3_8Decimals(t *testing.T) {
	for _, q := range radicands() {
		for _, places := range []int{0, 1, 2, 3, 17, 18, 19, 50, 99, 100} {
			low, high := between(t, q, places)
			if want := betweenOf(parse(q), places); (api.Range{Low: text(low), High: text(high)}) != want {
				t.Fatalf("Between(%s, %d): %s, %s, not %v", q, places, text(low), text(high), want)
			}
		}
	}
	for _, x := range []struct {
		q         api.Num
		places    int
		low, high api.Num
	}{
		{"2", 0, "1", "2"}, {"2", 1, "7/5", "3/2"}, {"2", 3, "707/500", "283/200"}, {"9/4", 0, "1", "2"}, {"9/4", 1, "3/2", "3/2"}, {"9/4", 100, "3/2", "3/2"},
		{"1/9", 2, "33/100", "17/50"}, {"0", 0, "0", "0"}, {"0", 100, "0", "0"}, {"1", 0, "1", "1"}, {"1/100", 0, "0", "1"}, {"1/100", 1, "1/10", "1/10"},
		{"1/10000", 1, "0", "1/10"}, {"1/16", 1, "1/5", "3/10"}, {"1/16", 2, "1/4", "1/4"}, {"99", 0, "9", "10"},
		{num("1/", nines(90)), 44, "0", num("1/", tenTo(44))}, {num("1/", tenTo(88)), 43, "0", num("1/", tenTo(43))}, {num("1/", tenTo(88)), 44, num("1/", tenTo(44)), num("1/", tenTo(44))},
	} {
		if r, e := root.Between(x.q, x.places); r != (api.Range{Low: x.low, High: x.high}) || e != api.OK {
			t.Errorf("Between(%s, %d): %v, %d", x.q, x.places, r, e)
		}
	}
}

func TestP3_8MorePlaces(t *testing.T) {
	list := radicands()
	for i := 0; i < len(list); i += 7 {
		q := parse(list[i])
		before, after := between(t, list[i], 0)
		for places := 0; places <= 100; places++ {
			unit := parse(num("1/", tenTo(places)))
			low, high := between(t, list[i], places)
			if square(low).Cmp(q) > 0 || square(high).Cmp(q) < 0 || low.Cmp(before) < 0 || high.Cmp(after) > 0 {
				t.Fatalf("Between(%s, %d): %s, %s", list[i], places, text(low), text(high))
			}
			isDecimal := square(low).Cmp(q) == 0
			if isDecimal != (low.Cmp(high) == 0) || !isDecimal && plus(low, unit).Cmp(high) != 0 || !over(low, unit).IsInt() {
				t.Fatalf("Between(%s, %d): %s, %s", list[i], places, text(low), text(high))
			}
			before, after = low, high
		}
	}
}
