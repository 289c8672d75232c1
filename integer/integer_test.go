package integer_test

import (
	"math/big"
	"math/rand/v2"
	"regexp"
	"slices"
	"strconv"
	"strings"
	"testing"

	"kingpost/api"
	"kingpost/integer"
)

// The results are compared with those of math/big, and with each other as the
// promises say; the integers stand at places where digits, words of the
// machine and limits begin or end.

func nines(n int) string       { return strings.Repeat("9", n) }
func tenTo(n int) string       { return "1" + strings.Repeat("0", n) }
func ones(n int) string        { return strings.Repeat("1", n) }
func parse(a string) *big.Int  { n, _ := new(big.Int).SetString(a, 10); return n }
func random(n uint) *rand.Rand { return rand.New(rand.NewPCG(uint64(n), 60)) }

// digits returns n digits in which runs of 0 and of 9 are frequent.
func digits(r *rand.Rand, n int) string {
	out := []byte{byte('1' + r.IntN(9))}
	for len(out) < n {
		kind, length := r.IntN(4), 1+r.IntN(12)
		for range length {
			switch kind {
			case 0:
				out = append(out, '0')
			case 1:
				out = append(out, '9')
			default:
				out = append(out, byte('0'+r.IntN(10)))
			}
		}
	}
	return string(out[:n])
}

// near returns n less 1, n, and n and 1.
func near(n *big.Int) []string {
	one := big.NewInt(1)
	return []string{new(big.Int).Sub(n, one).String(), n.String(), new(big.Int).Add(n, one).String()}
}

// samples returns integers of both signs with at most the given number of
// digits.
func samples(limit int) []string {
	list := []string{"0", "1", "2", "3", "5", "6", "7", "12", "18", "360360"}
	for _, k := range []int{1, 2, 3, 4, 8, 9, 10, 16, 17, 18, 19, 20, 27, 36, 37, 45, 54, 99, 140, 150} {
		list = append(list, near(parse(tenTo(k)))...)
	}
	for _, k := range []uint{15, 16, 31, 32, 53, 62, 63, 64, 65, 96, 127, 128, 256, 480} {
		list = append(list, near(new(big.Int).Lsh(big.NewInt(1), k))...)
	}
	r := random(1)
	for _, n := range []int{5, 9, 10, 13, 17, 18, 19, 22, 27, 28, 31, 36, 40, 55, 63, 72, 81, 90, 100, 120, 149, 150} {
		list = append(list, digits(r, n))
	}
	var out []string
	for _, a := range list {
		if len(a) <= limit && !slices.Contains(out, a) {
			out = append(out, a)
		}
	}
	for _, a := range slices.Clone(out) {
		if a != "0" {
			out = append(out, "-"+a)
		}
	}
	return out
}

// value returns the result of a function that should have one.
func value(t *testing.T) func(a string, e api.Errno) string {
	return func(a string, e api.Errno) string {
		t.Helper()
		if e != api.OK || integer.Check(a) != api.OK {
			t.Fatalf("result %q, error %d", a, e)
		}
		return a
	}
}

func divide(t *testing.T, a, b string) (string, string) {
	t.Helper()
	q, r, e := integer.Divide(a, b)
	if e != api.OK || integer.Check(q) != api.OK || integer.Check(r) != api.OK {
		t.Fatalf("Divide(%s, %s): %q, %q, error %d", a, b, q, r, e)
	}
	return q, r
}

func compare(t *testing.T, a, b string) int {
	t.Helper()
	n, e := integer.Compare(a, b)
	if e != api.OK {
		t.Fatalf("Compare(%s, %s): error %d", a, b, e)
	}
	return n
}

func TestP1_1Check(t *testing.T) {
	for _, c := range []struct {
		a    string
		want api.Errno
	}{
		{"0", api.OK}, {"7", api.OK}, {"-120", api.OK}, {"10", api.OK}, {"-1", api.OK}, {"1234567890", api.OK},
		{ones(299), api.OK}, {ones(300), api.OK}, {"-" + ones(300), api.OK}, {tenTo(299), api.OK}, {"-" + nines(300), api.OK},
		{ones(301), api.ErrLimit}, {"-" + ones(301), api.ErrLimit}, {tenTo(300), api.ErrLimit}, {nines(4000), api.ErrLimit},
		{"", api.ErrNumber}, {"-", api.ErrNumber}, {"--1", api.ErrNumber}, {"+1", api.ErrNumber}, {"-0", api.ErrNumber},
		{"00", api.ErrNumber}, {"01", api.ErrNumber}, {"-01", api.ErrNumber}, {"-00", api.ErrNumber}, {"1-", api.ErrNumber},
		{"1-2", api.ErrNumber}, {"1/2", api.ErrNumber}, {"1.0", api.ErrNumber}, {"1e3", api.ErrNumber}, {"1 ", api.ErrNumber},
		{" 1", api.ErrNumber}, {"- 1", api.ErrNumber}, {"1\n", api.ErrNumber}, {"1\x00", api.ErrNumber}, {"1_000", api.ErrNumber},
		{"a", api.ErrNumber}, {":", api.ErrNumber}, {"1:", api.ErrNumber}, {"\u0661", api.ErrNumber}, {"\xff", api.ErrNumber},
		{"\u22121", api.ErrNumber}, {"0x10", api.ErrNumber}, {"-x", api.ErrNumber},
		{ones(400) + "x", api.ErrNumber}, {"x" + ones(400), api.ErrNumber}, {"0" + ones(300), api.ErrNumber},
		{"0" + ones(400), api.ErrNumber}, {"-0" + ones(400), api.ErrNumber}, {strings.Repeat("0", 400), api.ErrNumber},
	} {
		if e := integer.Check(c.a); e != c.want {
			t.Errorf("Check(%q): %d, not %d", c.a, e, c.want)
		}
	}
}

func TestP1_1CheckOfArbitraryStrings(t *testing.T) {
	form := regexp.MustCompile(`^(0|-?[1-9][0-9]*)$`)
	r := random(2)
	const letters = "--00123456789/: +."
	for range 20000 {
		text := make([]byte, r.IntN(6))
		for i := range text {
			text[i] = letters[r.IntN(len(letters))]
		}
		want := api.OK
		if !form.Match(text) {
			want = api.ErrNumber
		}
		if e := integer.Check(string(text)); e != want {
			t.Fatalf("Check(%q): %d, not %d", text, e, want)
		}
	}
	for c := range 256 {
		isDigit := c >= '0' && c <= '9'
		for _, text := range []string{"1" + string([]byte{byte(c)}), "-1" + string([]byte{byte(c)}) + "1"} {
			if e := integer.Check(text); (e == api.OK) != isDigit || e != api.OK && e != api.ErrNumber {
				t.Errorf("Check(%q): %d", text, e)
			}
		}
	}
}

// errorsOf calls every function of one or two integers, and reports each that
// does not return the error, or returns something with it.
func errorsOf(t *testing.T, a, b string, want api.Errno) {
	t.Helper()
	for name, f := range map[string]func(a, b string) (string, api.Errno){"Add": integer.Add, "Sub": integer.Sub, "Mul": integer.Mul, "Gcd": integer.Gcd} {
		if c, e := f(a, b); c != "" || e != want {
			t.Errorf("%s(%q, %q): %q, error %d, not %d", name, a, b, c, e, want)
		}
	}
	if q, r, e := integer.Divide(a, b); q != "" || r != "" || e != want {
		t.Errorf("Divide(%q, %q): %q, %q, error %d, not %d", a, b, q, r, e, want)
	}
	if n, e := integer.Compare(a, b); n != 0 || e != want {
		t.Errorf("Compare(%q, %q): %d, error %d, not %d", a, b, n, e, want)
	}
}

func TestP1_1InvalidArguments(t *testing.T) {
	bad := []struct {
		a string
		e api.Errno
	}{
		{"", api.ErrNumber}, {"-", api.ErrNumber}, {"-0", api.ErrNumber}, {"007", api.ErrNumber}, {"+1", api.ErrNumber}, {"1x", api.ErrNumber},
		{"-1.5", api.ErrNumber}, {ones(400) + "x", api.ErrNumber}, {ones(301), api.ErrLimit}, {"-" + ones(301), api.ErrLimit},
	}
	for _, c := range bad {
		for _, good := range []string{"0", "5", "-" + nines(300)} {
			errorsOf(t, c.a, good, c.e)
			errorsOf(t, good, c.a, c.e)
		}
		for _, d := range bad {
			errorsOf(t, c.a, d.a, c.e)
		}
		if s, e := integer.Root(c.a); s != "" || e != c.e {
			t.Errorf("Root(%q): %q, error %d, not %d", c.a, s, e, c.e)
		}
		for _, n := range []int{-1, 0, 1, 2, 4096, 4097} {
			if s, e := integer.Power(c.a, n); s != "" || e != c.e {
				t.Errorf("Power(%q, %d): %q, error %d, not %d", c.a, n, s, e, c.e)
			}
		}
	}
}

func TestP1_1ErrorsOfValues(t *testing.T) {
	for _, a := range []string{"0", "5", "-5", nines(300), "-" + tenTo(40)} {
		if q, r, e := integer.Divide(a, "0"); q != "" || r != "" || e != api.ErrZero {
			t.Errorf("Divide(%s, 0): %q, %q, error %d", a, q, r, e)
		}
	}
	for _, a := range []string{"-1", "-4", "-" + tenTo(20), "-" + nines(300)} {
		if s, e := integer.Root(a); s != "" || e != api.ErrRange {
			t.Errorf("Root(%s): %q, error %d", a, s, e)
		}
	}
	for _, a := range []string{"0", "1", "-1", "2", nines(300)} {
		for _, n := range []int{-1, -2, -4096, 4097, 4098, 8192, 1 << 40, -1 << 63, 1<<63 - 1} {
			if s, e := integer.Power(a, n); s != "" || e != api.ErrRange {
				t.Errorf("Power(%s, %d): %q, error %d", a, n, s, e)
			}
		}
	}
}

func TestP1_1Limits(t *testing.T) {
	most := nines(300)
	for _, c := range []struct {
		name string
		f    func(a, b string) (string, api.Errno)
		a, b string
		want string
	}{
		{"Add", integer.Add, most, "0", most}, {"Add", integer.Add, most, "1", ""}, {"Add", integer.Add, "1", most, ""},
		{"Add", integer.Add, "-" + most, "-1", ""}, {"Add", integer.Add, "-1", "-" + most, ""},
		{"Add", integer.Add, most, "-1", nines(299) + "8"}, {"Add", integer.Add, "-" + most, "1", "-" + nines(299) + "8"},
		{"Add", integer.Add, nines(299), "1", tenTo(299)}, {"Add", integer.Add, most, "-" + most, "0"}, {"Add", integer.Add, most, most, ""},
		{"Add", integer.Add, "4" + nines(299), "5" + strings.Repeat("0", 299), most},
		{"Add", integer.Add, "5" + strings.Repeat("0", 299), "5" + strings.Repeat("0", 299), ""},
		{"Sub", integer.Sub, most, "0", most}, {"Sub", integer.Sub, most, "-1", ""}, {"Sub", integer.Sub, "-" + most, "1", ""},
		{"Sub", integer.Sub, "1", "-" + most, ""}, {"Sub", integer.Sub, "-1", most, ""}, {"Sub", integer.Sub, "0", most, "-" + most},
		{"Sub", integer.Sub, most, most, "0"}, {"Sub", integer.Sub, tenTo(299), "1", nines(299)}, {"Sub", integer.Sub, "-" + most, most, ""},
		{"Mul", integer.Mul, most, "1", most}, {"Mul", integer.Mul, most, "-1", "-" + most}, {"Mul", integer.Mul, most, "0", "0"},
		{"Mul", integer.Mul, "0", "-" + most, "0"}, {"Mul", integer.Mul, tenTo(150), tenTo(149), tenTo(299)},
		{"Mul", integer.Mul, tenTo(150), tenTo(150), ""}, {"Mul", integer.Mul, tenTo(299), "10", ""}, {"Mul", integer.Mul, "-" + tenTo(299), "9", "-9" + strings.Repeat("0", 299)},
		{"Mul", integer.Mul, nines(150), nines(150), nines(149) + "8" + strings.Repeat("0", 149) + "1"},
		{"Mul", integer.Mul, nines(150), nines(151), ""}, {"Mul", integer.Mul, most, most, ""}, {"Mul", integer.Mul, "5" + strings.Repeat("0", 299), "-2", ""},
		{"Gcd", integer.Gcd, most, "-" + most, most}, {"Gcd", integer.Gcd, "0", "-" + most, most}, {"Gcd", integer.Gcd, "-" + most, "0", most},
	} {
		wanted := api.OK
		if c.want == "" {
			wanted = api.ErrLimit
		}
		if s, e := c.f(c.a, c.b); s != c.want || e != wanted {
			t.Errorf("%s(%s, %s): %q, error %d, not %d", c.name, c.a, c.b, s, e, wanted)
		}
	}
	for _, b := range []string{"1", "-1", "2", "-2", most, "-" + most, nines(299), tenTo(299), "-" + tenTo(299)} {
		for _, a := range []string{most, "-" + most, tenTo(299), "-" + tenTo(299)} {
			agreeOnDivision(t, a, b)
		}
	}
}

func TestP1_1Examples(t *testing.T) {
	for _, c := range []struct{ a, b, q, r string }{
		{"-7", "2", "-4", "1"}, {"7", "-2", "-4", "-1"}, {"7", "2", "3", "1"}, {"-7", "-2", "3", "-1"}, {"0", "-3", "0", "0"},
		{"1", "-3", "-1", "-2"}, {"-1", "3", "-1", "2"}, {"-6", "3", "-2", "0"}, {"6", "-3", "-2", "0"},
	} {
		if q, r := divide(t, c.a, c.b); q != c.q || r != c.r {
			t.Errorf("Divide(%s, %s): %s, %s", c.a, c.b, q, r)
		}
	}
	if s := value(t)(integer.Root("99")); s != "9" {
		t.Error("Root(99):", s)
	}
	for _, c := range []struct{ a, b, want string }{{"12", "-18", "6"}, {"0", "0", "0"}, {"0", "-4", "4"}, {"-4", "0", "4"}, {"-4", "-6", "2"}, {"1", "0", "1"}, {"7", "7", "7"}} {
		if s := value(t)(integer.Gcd(c.a, c.b)); s != c.want {
			t.Errorf("Gcd(%s, %s): %s", c.a, c.b, s)
		}
	}
}

// agreeOnDivision compares Divide with the division of math/big, which is
// rounded towards 0.
func agreeOnDivision(t *testing.T, a, b string) {
	t.Helper()
	q, r := divide(t, a, b)
	want, rest := new(big.Int).QuoRem(parse(a), parse(b), new(big.Int))
	if rest.Sign() != 0 && rest.Sign() != parse(b).Sign() {
		want.Sub(want, big.NewInt(1))
		rest.Add(rest, parse(b))
	}
	if q != want.String() || r != rest.String() {
		t.Errorf("Divide(%s, %s): %s, %s, not %s, %s", a, b, q, r, want, rest)
	}
}

func TestP1_1AgreesWithBig(t *testing.T) {
	list := samples(150)
	for _, a := range list {
		for _, b := range list {
			x, y := parse(a), parse(b)
			if s := value(t)(integer.Add(a, b)); s != new(big.Int).Add(x, y).String() {
				t.Errorf("Add(%s, %s): %s", a, b, s)
			}
			if s := value(t)(integer.Sub(a, b)); s != new(big.Int).Sub(x, y).String() {
				t.Errorf("Sub(%s, %s): %s", a, b, s)
			}
			if s := value(t)(integer.Mul(a, b)); s != new(big.Int).Mul(x, y).String() {
				t.Errorf("Mul(%s, %s): %s", a, b, s)
			}
			if s := value(t)(integer.Gcd(a, b)); s != new(big.Int).GCD(nil, nil, new(big.Int).Abs(x), new(big.Int).Abs(y)).String() {
				t.Errorf("Gcd(%s, %s): %s", a, b, s)
			}
			if n := compare(t, a, b); n != x.Cmp(y) {
				t.Errorf("Compare(%s, %s): %d", a, b, n)
			}
			if b != "0" {
				agreeOnDivision(t, a, b)
			}
		}
	}
}

// limited is what a function returns for a result of math/big.
func limited(n *big.Int) (string, api.Errno) {
	if text := n.String(); len(strings.TrimPrefix(text, "-")) <= api.MaxDigits {
		return text, api.OK
	}
	return "", api.ErrLimit
}

func TestP1_1AgreesWithBigUpToTheLimit(t *testing.T) {
	r := random(9)
	for range 5000 {
		x, y := parse(digits(r, 1+r.IntN(300))), parse(digits(r, 1+r.IntN(300)))
		if r.IntN(3) == 0 {
			x, y = parse(digits(r, 300)), parse(digits(r, 299+r.IntN(2)))
		}
		if r.IntN(2) == 0 {
			x.Neg(x)
		}
		if r.IntN(2) == 0 {
			y.Neg(y)
		}
		a, b := x.String(), y.String()
		for name, c := range map[string]struct {
			f    func(a, b string) (string, api.Errno)
			want *big.Int
		}{"Add": {integer.Add, new(big.Int).Add(x, y)}, "Sub": {integer.Sub, new(big.Int).Sub(x, y)}, "Mul": {integer.Mul, new(big.Int).Mul(x, y)}} {
			want, wanted := limited(c.want)
			if s, e := c.f(a, b); s != want || e != wanted {
				t.Errorf("%s(%s, %s): %q, error %d, not %q", name, a, b, s, e, want)
			}
		}
		if n := compare(t, a, b); n != x.Cmp(y) {
			t.Errorf("Compare(%s, %s): %d", a, b, n)
		}
		agreeOnDivision(t, a, b)
	}
}

func TestP1_1ResultsAreTheSameAgain(t *testing.T) {
	list := samples(40)
	for i, a := range list {
		b := list[(i*7+3)%len(list)]
		first, second := value(t)(integer.Mul(a, b)), value(t)(integer.Mul(a, b))
		g, h := value(t)(integer.Gcd(a, b)), value(t)(integer.Gcd(a, b))
		if first != second || g != h {
			t.Error(a, b, first, second, g, h)
		}
	}
}

func TestP1_2Ring(t *testing.T) {
	list := samples(70)
	r := random(3)
	v := value(t)
	for range 20000 {
		a, b, c := list[r.IntN(len(list))], list[r.IntN(len(list))], list[r.IntN(len(list))]
		ab, ba := v(integer.Add(a, b)), v(integer.Add(b, a))
		if ab != ba {
			t.Errorf("sums of %s and %s: %s, %s", a, b, ab, ba)
		}
		if s, u := v(integer.Add(ab, c)), v(integer.Add(a, v(integer.Add(b, c)))); s != u {
			t.Errorf("sums of %s, %s and %s: %s, %s", a, b, c, s, u)
		}
		product := v(integer.Mul(a, b))
		if q := v(integer.Mul(b, a)); q != product {
			t.Errorf("products of %s and %s: %s, %s", a, b, product, q)
		}
		if s, u := v(integer.Mul(product, c)), v(integer.Mul(a, v(integer.Mul(b, c)))); s != u {
			t.Errorf("products of %s, %s and %s: %s, %s", a, b, c, s, u)
		}
		if s, u := v(integer.Mul(ab, c)), v(integer.Add(v(integer.Mul(a, c)), v(integer.Mul(b, c)))); s != u {
			t.Errorf("(%s + %s) %s: %s, %s", a, b, c, s, u)
		}
		if s := v(integer.Sub(ab, b)); s != a {
			t.Errorf("%s + %s - %s: %s", a, b, b, s)
		}
		if s := v(integer.Add(v(integer.Sub(a, b)), b)); s != a {
			t.Errorf("%s - %s + %s: %s", a, b, b, s)
		}
	}
	for _, a := range list {
		zero, itself, one, nothing := v(integer.Sub(a, a)), v(integer.Add(a, "0")), v(integer.Mul(a, "1")), v(integer.Mul("0", a))
		if zero != "0" || itself != a || one != a || nothing != "0" {
			t.Error(a, zero, itself, one, nothing)
		}
		opposite := v(integer.Sub("0", a))
		if s := v(integer.Mul("-1", a)); s != opposite || v(integer.Add(a, s)) != "0" {
			t.Error(a, opposite, s)
		}
	}
}

// checkDivision checks what the promise says, without another division.
func checkDivision(t *testing.T, a, b string) {
	t.Helper()
	q, r := divide(t, a, b)
	x := parse(b)
	back := new(big.Int).Mul(parse(q), x)
	if back.Add(back, parse(r)).String() != a {
		t.Errorf("Divide(%s, %s): %s, %s", a, b, q, r)
	}
	if rest := parse(r); rest.CmpAbs(x) >= 0 || rest.Sign() != 0 && rest.Sign() != x.Sign() {
		t.Errorf("Divide(%s, %s): remainder %s", a, b, r)
	}
}

func TestP1_3Division(t *testing.T) {
	for _, a := range samples(150) {
		for _, b := range samples(150) {
			if b != "0" {
				checkDivision(t, a, b)
			}
		}
	}
}

// Dividends just below a multiple make a division by hand guess digits that
// are too great, most of all if the divisor's first digits are round.
func TestP1_3DivisionBesideMultiples(t *testing.T) {
	r := random(4)
	for range 4000 {
		b := parse(digits(r, 1+r.IntN(150)))
		if r.IntN(2) == 0 {
			b = parse(strconv.Itoa(1+r.IntN(9)) + strings.Repeat("0", r.IntN(140)) + strconv.Itoa(1+r.IntN(9)))
		}
		q := parse(digits(r, 1+r.IntN(149)))
		for _, a := range near(q.Mul(q, b)) {
			for _, signed := range []string{a, "-" + a} {
				if signed != "-0" {
					checkDivision(t, signed, b.String())
					checkDivision(t, signed, "-"+b.String())
				}
			}
		}
	}
}

func TestP1_4Divisors(t *testing.T) {
	v := value(t)
	list := samples(60)
	for _, a := range list {
		for _, b := range list {
			g := v(integer.Gcd(a, b))
			if g == "0" {
				if a != "0" || b != "0" {
					t.Errorf("Gcd(%s, %s): 0", a, b)
				}
				continue
			}
			_, r := divide(t, a, g)
			_, s := divide(t, b, g)
			if r != "0" || s != "0" || compare(t, g, "0") != 1 || v(integer.Gcd(b, a)) != g {
				t.Errorf("Gcd(%s, %s): %s", a, b, g)
			}
		}
	}
}

func TestP1_4DivisorsOfMultiples(t *testing.T) {
	v := value(t)
	r := random(5)
	list := samples(90)
	for range 10000 {
		a, b, m := list[r.IntN(len(list))], list[r.IntN(len(list))], list[r.IntN(len(list))]
		g := v(integer.Gcd(a, b))
		if s := v(integer.Gcd(v(integer.Add(a, v(integer.Mul(m, b)))), b)); s != g {
			t.Errorf("Gcd(%s + %s * %s, %s): %s, not %s", a, m, b, b, s, g)
		}
		times := v(integer.Mul(g, strings.TrimPrefix(m, "-")))
		if s := v(integer.Gcd(v(integer.Mul(a, m)), v(integer.Mul(b, m)))); s != times {
			t.Errorf("Gcd of %s and %s, times %s: %s, not %s", a, b, m, s, times)
		}
	}
}

// Neighbours of Fibonacci make Euclid's algorithm take the most steps; each
// quotient is 1.
func TestP1_4DivisorsOfFibonacci(t *testing.T) {
	v := value(t)
	a, b := big.NewInt(1), big.NewInt(1)
	for len(b.String()) <= 300 {
		if g := v(integer.Gcd(a.String(), b.String())); g != "1" {
			t.Fatalf("Gcd(%s, %s): %s", a, b, g)
		}
		if len(b.String()) <= 270 {
			const factor = "-1000000000000000000000000007"
			c, d := v(integer.Mul(a.String(), factor)), v(integer.Mul(b.String(), factor))
			if g := v(integer.Gcd(c, d)); g != factor[1:] {
				t.Fatalf("Gcd(%s, %s): %s", c, d, g)
			}
		}
		a, b = b, new(big.Int).Add(a, b)
	}
}

func TestP1_4DivisorsOfRandomIntegers(t *testing.T) {
	r := random(6)
	for range 20000 {
		common := parse(digits(r, 1+r.IntN(100)))
		x, y := parse(digits(r, 1+r.IntN(200))), parse(digits(r, 1+r.IntN(200)))
		x.Mul(x, common)
		y.Mul(y, common)
		if g := value(t)(integer.Gcd(x.String(), y.String())); g != new(big.Int).GCD(nil, nil, x, y).String() {
			t.Fatalf("Gcd(%s, %s): %s", x, y, g)
		}
	}
}

// checkRoot checks what the promise says.
func checkRoot(t *testing.T, a string) {
	t.Helper()
	root := parse(value(t)(integer.Root(a)))
	n := parse(a)
	next := new(big.Int).Add(root, big.NewInt(1))
	if root.Sign() < 0 || root.Cmp(new(big.Int).Sqrt(n)) != 0 || new(big.Int).Mul(root, root).Cmp(n) > 0 || next.Mul(next, next).Cmp(n) <= 0 {
		t.Errorf("Root(%s): %s", a, root)
	}
}

func TestP1_5Roots(t *testing.T) {
	for n := range 11000 {
		checkRoot(t, strconv.Itoa(n))
	}
	for _, a := range samples(150) {
		if a[0] == '-' || a == "0" {
			continue
		}
		square := new(big.Int).Mul(parse(a), parse(a))
		for _, b := range append(near(square), a) {
			checkRoot(t, b)
		}
		double := new(big.Int).Add(parse(a), parse(a))
		if last := square.Add(square, double).String(); value(t)(integer.Root(last)) != a {
			t.Errorf("Root(%s) is not %s", last, a)
		}
	}
	for _, k := range []int{297, 298, 299, 300} {
		checkRoot(t, ones(k))
		checkRoot(t, nines(k))
		checkRoot(t, tenTo(k-1))
	}
}

func TestP1_5RootsOfRandomIntegers(t *testing.T) {
	r := random(7)
	for range 10000 {
		checkRoot(t, digits(r, 1+r.IntN(300)))
	}
}

func TestP1_6Order(t *testing.T) {
	v := value(t)
	list := samples(150)
	slices.SortFunc(list, func(a, b string) int { return parse(a).Cmp(parse(b)) })
	for i, a := range list {
		for j, b := range list {
			want := 0
			if i != j {
				want = 1
			}
			if i < j {
				want = -1
			}
			sign := compare(t, v(integer.Sub(a, b)), "0")
			if n := compare(t, a, b); n != want || sign != want {
				t.Errorf("Compare(%s, %s): %d, sign of the difference %d", a, b, n, sign)
			}
			c := list[(i*31+j*17)%len(list)]
			if n := compare(t, v(integer.Add(a, c)), v(integer.Add(b, c))); n != want {
				t.Errorf("Compare(%s + %s, %s + %s): %d", a, c, b, c, n)
			}
		}
	}
	for _, c := range []struct {
		a, b string
		want int
	}{
		{nines(300), nines(299) + "8", 1}, {"-" + nines(300), "-" + nines(299) + "8", -1}, {nines(300), "-" + nines(300), 1},
		{"-" + nines(300), nines(300), -1}, {"-" + nines(300), "-" + nines(300), 0}, {nines(299), tenTo(299), -1}, {"-" + nines(299), "-" + tenTo(299), 1},
	} {
		if n := compare(t, c.a, c.b); n != c.want {
			t.Errorf("Compare(%s, %s): %d", c.a, c.b, n)
		}
	}
}

// small returns integers of 32 bits, all near 0 and some near the ends.
func small() []int64 {
	var out []int64
	for n := range int64(25) {
		out = append(out, n-12)
	}
	for _, n := range []int64{99, 100, 255, 256, 9999, 10000, 32767, 32768, 46340, 46341, 65535, 65536, 16777216, 99999999, 100000000, 123456789, 999999999, 1000000000, 1<<31 - 2, 1<<31 - 1} {
		out = append(out, n, -n)
	}
	return append(out, -1<<31)
}

func TestP1_7SmallIntegers(t *testing.T) {
	v := value(t)
	text := func(n int64) string { return strconv.FormatInt(n, 10) }
	for _, a := range small() {
		for _, b := range small() {
			s, d, p := v(integer.Add(text(a), text(b))), v(integer.Sub(text(a), text(b))), v(integer.Mul(text(a), text(b)))
			if s != text(a+b) || d != text(a-b) || p != text(a*b) {
				t.Errorf("%d, %d: %s, %s, %s", a, b, s, d, p)
			}
			if n := compare(t, text(a), text(b)); n > 0 != (a > b) || n < 0 != (a < b) || n < -1 || n > 1 {
				t.Errorf("Compare(%d, %d): %d", a, b, n)
			}
			if b == 0 {
				continue
			}
			q, r := a/b, a%b
			if r != 0 && (r < 0) != (b < 0) {
				q, r = q-1, r+b
			}
			if x, y := divide(t, text(a), text(b)); x != text(q) || y != text(r) {
				t.Errorf("Divide(%d, %d): %s, %s", a, b, x, y)
			}
			x, y := max(a, -a), max(b, -b)
			for y != 0 {
				x, y = y, x%y
			}
			if g := v(integer.Gcd(text(a), text(b))); g != text(x) {
				t.Errorf("Gcd(%d, %d): %s", a, b, g)
			}
		}
	}
}

func TestP1_7SmallPowersAndRoots(t *testing.T) {
	v := value(t)
	for a := int64(-12); a <= 12; a++ {
		power := int64(1)
		for n := range 17 {
			if s := v(integer.Power(strconv.FormatInt(a, 10), n)); s != strconv.FormatInt(power, 10) {
				t.Errorf("Power(%d, %d): %s", a, n, s)
			}
			power *= a
		}
	}
	for _, a := range small() {
		if a < 0 {
			continue
		}
		root := int64(0)
		for (root+1)*(root+1) <= a {
			root++
		}
		if s := v(integer.Root(strconv.FormatInt(a, 10))); s != strconv.FormatInt(root, 10) {
			t.Errorf("Root(%d): %s", a, s)
		}
	}
}

func TestP1_8Powers(t *testing.T) {
	for _, a := range samples(150) {
		power := big.NewInt(1)
		for n := range 40 {
			text := power.String()
			want, wanted := text, api.OK
			if len(strings.TrimPrefix(text, "-")) > 300 {
				want, wanted = "", api.ErrLimit
			}
			if s, e := integer.Power(a, n); s != want || e != wanted {
				t.Errorf("Power(%s, %d): %q, error %d, not %q", a, n, s, e, want)
			}
			power.Mul(power, parse(a))
		}
	}
}

func TestP1_8ExponentsAreAdded(t *testing.T) {
	v := value(t)
	r := random(8)
	for _, a := range []string{"0", "1", "-1", "2", "-2", "3", "-7", "10", "-10", "99", "999999999", "-1000000000", "123456789012345678901234567890"} {
		for range 200 {
			most := 4096
			if len(a) > 1 && a != "-1" || a > "1" {
				most = 300 / len(a)
			}
			m := r.IntN(most + 1)
			n := r.IntN(most - m + 1)
			both := v(integer.Mul(v(integer.Power(a, m)), v(integer.Power(a, n))))
			if s := v(integer.Power(a, m+n)); s != both {
				t.Errorf("Power(%s, %d + %d): %s, not %s", a, m, n, s, both)
			}
		}
	}
}

func TestP1_8LimitsOfPowers(t *testing.T) {
	for _, c := range []struct {
		a    string
		n    int
		want string
		e    api.Errno
	}{
		{"0", 0, "1", api.OK}, {"1", 0, "1", api.OK}, {"-5", 0, "1", api.OK}, {nines(300), 0, "1", api.OK}, {"0", 1, "0", api.OK}, {"0", 4096, "0", api.OK},
		{"1", 4096, "1", api.OK}, {"-1", 4096, "1", api.OK}, {"-1", 4095, "-1", api.OK}, {nines(300), 1, nines(300), api.OK}, {"-" + nines(300), 1, "-" + nines(300), api.OK},
		{nines(300), 2, "", api.ErrLimit}, {"10", 299, tenTo(299), api.OK}, {"10", 300, "", api.ErrLimit}, {"-10", 299, "-" + tenTo(299), api.OK}, {"-10", 300, "", api.ErrLimit},
		{tenTo(149), 2, tenTo(298), api.OK}, {tenTo(150), 2, "", api.ErrLimit}, {"2", 996, new(big.Int).Lsh(big.NewInt(1), 996).String(), api.OK},
		{"2", 997, "", api.ErrLimit}, {"-2", 997, "", api.ErrLimit}, {"2", 4096, "", api.ErrLimit}, {"-2", 4095, "", api.ErrLimit}, {nines(300), 4096, "", api.ErrLimit},
		{"3", 628, new(big.Int).Exp(big.NewInt(3), big.NewInt(628), nil).String(), api.OK}, {"3", 629, "", api.ErrLimit}, {"3", 640, "", api.ErrLimit},
	} {
		if s, e := integer.Power(c.a, c.n); s != c.want || e != c.e {
			t.Errorf("Power(%s, %d): %q, error %d", c.a, c.n, s, e)
		}
	}
}
