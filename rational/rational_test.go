package rational_test

import (
	"math"
	"math/big"
	"math/rand/v2"
	"regexp"
	"slices"
	"strings"
	"testing"

	"kingpost/api"
	"kingpost/rational"
)

// The results are compared with those of math/big, by the rules of the chapter
// for limits, and with each other as the promises say.

func nines(n int) string          { return strings.Repeat("9", n) }
func ones(n int) string           { return strings.Repeat("1", n) }
func tenTo(n int) string          { return "1" + strings.Repeat("0", n) }
func num(parts ...string) api.Num { return api.Num(strings.Join(parts, "")) }
func random(n uint) *rand.Rand    { return rand.New(rand.NewPCG(uint64(n), 60)) }

func parse(a api.Num) *big.Rat {
	r, ok := new(big.Rat).SetString(string(a))
	if !ok {
		panic("no number: " + string(a))
	}
	return r
}

// text is the number that a rational of math/big is.
func text(r *big.Rat) api.Num { return api.Num(r.RatString()) }

// isLong tells if an integer has more than MaxDigits digits.
func isLong(n *big.Int) bool {
	return len(strings.TrimPrefix(n.String(), "-")) > api.MaxDigits
}

// digits returns n digits in which runs of 0 and of 9 are frequent.
func digits(r *rand.Rand, n int) string {
	out := []byte{byte('1' + r.IntN(9))}
	for len(out) < n {
		kind, length := r.IntN(4), 1+r.IntN(12)
		for range length {
			switch kind {
			case 0:
				out = append(out, '0')
			case 1:
				out = append(out, '9')
			default:
				out = append(out, byte('0'+r.IntN(10)))
			}
		}
	}
	return string(out[:n])
}

// anyNumber returns a number with at most the given numbers of digits.
func anyNumber(r *rand.Rand, most, mostBelow int) api.Num {
	a := new(big.Rat)
	a.SetString(digits(r, 1+r.IntN(most)) + "/" + digits(r, 1+r.IntN(mostBelow)))
	switch r.IntN(8) {
	case 0:
		a.SetInt(a.Num())
	case 1:
		a.SetInt64(int64(r.IntN(5)))
	}
	if r.IntN(2) == 0 {
		a.Neg(a)
	}
	return text(a)
}

// edges are integers at places where the machine's integers, or what is
// computed with them, begin or end.
func edges() []string {
	list := []string{"0", "1", "2", "3", "4", "5", "6", "7", "12"}
	one := big.NewInt(1)
	var powers []*big.Int
	for _, k := range []uint{15, 16, 30, 31, 32, 53, 59, 60, 61, 62, 63, 64, 65} {
		powers = append(powers, new(big.Int).Lsh(one, k))
	}
	for _, k := range []int64{8, 9, 10, 17, 18, 19, 20, 36, 70} {
		powers = append(powers, new(big.Int).Exp(big.NewInt(10), big.NewInt(k), nil))
	}
	for _, p := range powers {
		list = append(list, new(big.Int).Sub(p, one).String(), p.String(), new(big.Int).Add(p, one).String())
	}
	return list
}

// samples returns numbers of both signs whose parts have at most 71 digits.
func samples() []api.Num {
	var out []api.Num
	list := edges()
	for i, a := range list {
		out = append(out, api.Num(a))
		for _, b := range []string{"2", "3", "7", "12", list[(i*5+3)%len(list)], list[len(list)-1-i]} {
			if b != "0" {
				out = append(out, text(parse(num(a, "/", b))), text(parse(num("-", a, "/", b))))
			}
		}
	}
	r := random(1)
	for range 60 {
		out = append(out, anyNumber(r, 20, 20), anyNumber(r, 70, 70))
	}
	slices.Sort(out)
	return slices.Compact(out)
}

// value returns the result of a function that should have one.
func value(t *testing.T) func(a api.Num, e api.Errno) api.Num {
	return func(a api.Num, e api.Errno) api.Num {
		t.Helper()
		if e != api.OK || rational.Check(a) != api.OK {
			t.Fatalf("result %q, error %d", a, e)
		}
		return a
	}
}

func compare(t *testing.T, a, b api.Num) int {
	t.Helper()
	n, e := rational.Compare(a, b)
	if e != api.OK {
		t.Fatalf("Compare(%s, %s): error %d", a, b, e)
	}
	return n
}

func TestP2_1Check(t *testing.T) {
	most, more := nines(300), nines(301)
	for _, c := range []struct {
		a    api.Num
		want api.Errno
	}{
		{"0", api.OK}, {"7", api.OK}, {"-120", api.OK}, {"1/2", api.OK}, {"-7/12", api.OK}, {"10/3", api.OK}, {"-1/10", api.OK},
		{num(most), api.OK}, {num("-", most), api.OK}, {num("1/", most), api.OK}, {num("-", most, "/", tenTo(299)), api.OK},
		{num(tenTo(299), "/", most), api.OK}, {num(ones(18), "/", tenTo(18)), api.OK}, {num(ones(19), "/", tenTo(19)), api.OK},
		{num(more), api.ErrLimit}, {num("-", more), api.ErrLimit}, {num("1/", more), api.ErrLimit}, {num(more, "/2"), api.ErrLimit},
		{num(more, "/", more), api.ErrLimit}, {num(more, "/3"), api.ErrLimit}, {num("3/", more), api.ErrLimit}, {num("0/", more), api.ErrLimit},
		{num(most, "/", more), api.ErrLimit}, {num(more, "/", most), api.ErrLimit}, {num(nines(4000)), api.ErrLimit},
		{"", api.ErrNumber}, {"-", api.ErrNumber}, {"--1", api.ErrNumber}, {"+1", api.ErrNumber}, {"-0", api.ErrNumber}, {"00", api.ErrNumber},
		{"01", api.ErrNumber}, {"-01", api.ErrNumber}, {"01/2", api.ErrNumber}, {"-01/2", api.ErrNumber}, {"1/02", api.ErrNumber}, {"1/002", api.ErrNumber},
		{"1/0", api.ErrNumber}, {"0/0", api.ErrNumber}, {"1/00", api.ErrNumber}, {"1/1", api.ErrNumber}, {"-7/1", api.ErrNumber}, {"0/1", api.ErrNumber},
		{"1/01", api.ErrNumber}, {"0/2", api.ErrNumber}, {"0/5", api.ErrNumber}, {"-0/5", api.ErrNumber}, {"2/4", api.ErrNumber}, {"-2/4", api.ErrNumber},
		{"4/2", api.ErrNumber}, {"6/9", api.ErrNumber}, {"7/7", api.ErrNumber}, {"1/-2", api.ErrNumber}, {"-1/-2", api.ErrNumber}, {"1/+2", api.ErrNumber},
		{"/", api.ErrNumber}, {"1/", api.ErrNumber}, {"/2", api.ErrNumber}, {"-/2", api.ErrNumber}, {"1//2", api.ErrNumber}, {"1/2/3", api.ErrNumber},
		{"1/2/", api.ErrNumber}, {"1.5", api.ErrNumber}, {"1e3", api.ErrNumber}, {" 1", api.ErrNumber}, {"1 ", api.ErrNumber}, {"1 /2", api.ErrNumber},
		{"1/ 2", api.ErrNumber}, {"1/2\n", api.ErrNumber}, {"1/2\x00", api.ErrNumber}, {"a", api.ErrNumber}, {"1/a", api.ErrNumber}, {"a/2", api.ErrNumber},
		{":", api.ErrNumber}, {"1/:", api.ErrNumber}, {"\u0661", api.ErrNumber}, {"1\u20442", api.ErrNumber}, {"\xff", api.ErrNumber}, {"1-2", api.ErrNumber},
		{num("0", ones(300)), api.ErrNumber}, {num(more, "x"), api.ErrNumber}, {num("x/", more), api.ErrNumber}, {num(more, "/0"), api.ErrNumber},
		{num(more, "/1"), api.ErrNumber}, {num(more, "/"), api.ErrNumber}, {num("/", more), api.ErrNumber}, {num(more, "/-2"), api.ErrNumber}, {num(more, "/02"), api.ErrNumber},
		{num("-0/", more), api.ErrNumber}, {num("1/0", more), api.ErrNumber}, {num("1/-", more), api.ErrNumber}, {num("00/", more), api.ErrNumber},
		{num("3/", most), api.ErrNumber}, {num(most, "/3"), api.ErrNumber}, {num(most, "/", most), api.ErrNumber}, {num("0/", most), api.ErrNumber},
		{num(tenTo(18), "/5"), api.ErrNumber}, {num(tenTo(17), "/5"), api.ErrNumber}, {num("5/", tenTo(17)), api.ErrNumber}, {num("5/", tenTo(18)), api.ErrNumber},
	} {
		if e := rational.Check(c.a); e != c.want {
			t.Errorf("Check(%q): %d, not %d", c.a, e, c.want)
		}
	}
}

func TestP2_1CheckOfArbitraryStrings(t *testing.T) {
	form := regexp.MustCompile(`^(0|-?[1-9][0-9]*)(/[1-9][0-9]*)?$`)
	r := random(2)
	const letters = "--//00123456789/: +."
	for range 60000 {
		bytes := make([]byte, r.IntN(7))
		for i := range bytes {
			bytes[i] = letters[r.IntN(len(letters))]
		}
		a, want := api.Num(bytes), api.OK
		if !form.Match(bytes) || text(parse(a)) != a {
			want = api.ErrNumber
		}
		if e := rational.Check(a); e != want {
			t.Fatalf("Check(%q): %d, not %d", a, e, want)
		}
	}
	for c := range 256 {
		isDigit := c >= '0' && c <= '9'
		for _, a := range []string{"1" + string([]byte{byte(c)}), "-1" + string([]byte{byte(c)}) + "1", "1/1" + string([]byte{byte(c)}), ones(20) + string([]byte{byte(c)}) + "1"} {
			if e := rational.Check(api.Num(a)); (e == api.OK) != isDigit && c != '/' || e != api.OK && e != api.ErrNumber {
				t.Errorf("Check(%q): %d", a, e)
			}
		}
	}
}

// binary are the functions that return a number of two.
func binary() map[string]func(a, b api.Num) (api.Num, api.Errno) {
	return map[string]func(a, b api.Num) (api.Num, api.Errno){"Add": rational.Add, "Sub": rational.Sub, "Mul": rational.Mul, "Div": rational.Div}
}

// failsWith reports each function of two numbers that does not return the
// error, or returns something with it.
func failsWith(t *testing.T, a, b api.Num, want api.Errno) {
	t.Helper()
	for name, f := range binary() {
		if c, e := f(a, b); c != "" || e != want {
			t.Errorf("%s(%q, %q): %q, error %d, not %d", name, a, b, c, e, want)
		}
	}
	if n, e := rational.Compare(a, b); n != 0 || e != want {
		t.Errorf("Compare(%q, %q): %d, error %d, not %d", a, b, n, e, want)
	}
}

func TestP2_1InvalidArguments(t *testing.T) {
	bad := []struct {
		a api.Num
		e api.Errno
	}{
		{"", api.ErrNumber}, {"-0", api.ErrNumber}, {"07", api.ErrNumber}, {"2/4", api.ErrNumber}, {"1/0", api.ErrNumber}, {"1/1", api.ErrNumber}, {"0/3", api.ErrNumber},
		{"1/-2", api.ErrNumber}, {num("3/", nines(300)), api.ErrNumber}, {num(nines(301), "x"), api.ErrNumber}, {num(nines(301)), api.ErrLimit}, {num("1/", nines(301)), api.ErrLimit},
	}
	for _, c := range bad {
		for _, good := range []api.Num{"0", "5", "-1/3", num("-", nines(300)), num("1/", nines(300))} {
			failsWith(t, c.a, good, c.e)
			failsWith(t, good, c.a, c.e)
		}
		for _, d := range bad {
			failsWith(t, c.a, d.a, c.e)
		}
		if n, d, e := rational.Parts(c.a); n != "" || d != "" || e != c.e {
			t.Errorf("Parts(%q): %q, %q, error %d", c.a, n, d, e)
		}
		if f, e := rational.Floor(c.a); f != "" || e != c.e {
			t.Errorf("Floor(%q): %q, error %d", c.a, f, e)
		}
		if n, e := rational.Int(c.a); n != 0 || e != c.e {
			t.Errorf("Int(%q): %d, error %d", c.a, n, e)
		}
		if s, e := rational.Sum([]api.Num{"1", c.a, "2"}); s != "" || e != c.e {
			t.Errorf("Sum of 1, %q and 2: %q, error %d", c.a, s, e)
		}
	}
}

// checkAll compares all functions of two numbers with math/big.
func checkAll(t *testing.T, a, b api.Num) {
	t.Helper()
	x, y := parse(a), parse(b)
	one := new(big.Int).Mul(x.Num(), y.Denom())
	other := new(big.Int).Mul(y.Num(), x.Denom())
	below := new(big.Int).Mul(x.Denom(), y.Denom())
	above := new(big.Int).Mul(x.Num(), y.Num())
	isCrossLong := isLong(one) || isLong(other)
	for name, c := range map[string]struct {
		isLong bool
		n, d   *big.Int
	}{
		"Add": {isCrossLong || isLong(below), new(big.Int).Add(one, other), below},
		"Sub": {isCrossLong || isLong(below), new(big.Int).Sub(one, other), below},
		"Mul": {isLong(below), above, below},
		"Div": {isCrossLong, one, other},
	} {
		want, wanted := api.Num(""), api.ErrZero
		if c.d.Sign() != 0 {
			wanted = api.ErrLimit
			if !c.isLong && !isLong(c.n) {
				want, wanted = text(new(big.Rat).SetFrac(c.n, c.d)), api.OK
			}
		}
		if s, e := binary()[name](a, b); s != want || e != wanted {
			t.Errorf("%s(%s, %s): %q, error %d, not %q, %d", name, a, b, s, e, want, wanted)
		}
	}
	want, wanted := x.Cmp(y), api.OK
	if isCrossLong {
		want, wanted = 0, api.ErrLimit
	}
	if n, e := rational.Compare(a, b); n != want || e != wanted {
		t.Errorf("Compare(%s, %s): %d, error %d, not %d, %d", a, b, n, e, want, wanted)
	}
}

func TestP2_1AgreesWithBig(t *testing.T) {
	list := samples()
	for i, a := range list {
		for j := i % 11; j < len(list); j += 11 {
			checkAll(t, a, list[j])
		}
	}
}

func TestP2_1AgreesWithBigNearTheMachine(t *testing.T) {
	var list []api.Num
	for _, a := range edges()[:9] {
		list = append(list, api.Num(a))
	}
	for _, a := range []string{"2147483647", "2147483648", "2147483649", "999999999", "1000000000", "4294967295", nines(17), nines(18), tenTo(17), tenTo(18), "4611686018427387903", "4611686018427387904", "4611686018427387905", "1152921504606846976", "2305843009213693951", "2305843009213693952", "-2305843009213693953"} {
		for _, b := range []string{"1", "2", "3", "4", "2147483647", "4611686018427387904", "1000000007", nines(18)} {
			list = append(list, text(parse(num(a, "/", b))), text(new(big.Rat).Neg(parse(num(a, "/", b)))))
		}
	}
	for _, a := range list {
		for _, b := range list {
			checkAll(t, a, b)
		}
	}
}

func TestP2_1AgreesWithBigUpToTheLimit(t *testing.T) {
	r := random(3)
	for range 3000 {
		checkAll(t, anyNumber(r, 300, 300), anyNumber(r, 300, 300))
		checkAll(t, anyNumber(r, 200, 100), anyNumber(r, 200, 100))
		checkAll(t, anyNumber(r, 300, 1), anyNumber(r, 300, 1))
	}
}

func TestP2_1Limits(t *testing.T) {
	most, ten := nines(300), tenTo(150)
	for _, c := range []struct {
		a, b                api.Num
		sum, less, mul, div api.Num
		hasOrder            bool
	}{
		{num(most), "0", num(most), num(most), "0", "zero", true},
		{num(most), "1", "", num(nines(299), "8"), num(most), num(most), true},
		{num("-", most), "1", num("-", nines(299), "8"), "", num("-", most), num("-", most), true},
		{num(most), num(most), "", "0", "", "1", true},
		{num(most), "1/2", "", "", num(most, "/2"), "", false},
		{num(most), "2", "", num(nines(299), "7"), "", num(most, "/2"), true},
		{num("1/", most), num("1/", most), "", "", "", "1", true},
		{num("1/", most), "0", num("1/", most), num("1/", most), "0", "zero", true},
		{num("1/", most), num(most), "", "", "1", "", false},
		{num(ten), num("1/", ten), "", "", "1", "", false},
		{num("1/", ten), num("1/", tenTo(149)), num("11/", ten), num("-9/", ten), num("1/", tenTo(299)), "1/10", true},
		{num("1/", ten), num("1/", ten), "", "", "", "1", true},
		{num(tenTo(299), "/3"), "1/3", num("1", strings.Repeat("0", 298), "1/3"), num(strings.Repeat("3", 299)), num(tenTo(299), "/9"), num(tenTo(299)), true},
	} {
		for name, want := range map[string]api.Num{"Add": c.sum, "Sub": c.less, "Mul": c.mul, "Div": c.div} {
			wanted := api.OK
			switch want {
			case "":
				wanted = api.ErrLimit
			case "zero":
				want, wanted = "", api.ErrZero
			}
			if s, e := binary()[name](c.a, c.b); s != want || e != wanted {
				t.Errorf("%s(%s, %s): %q, error %d, not %q, %d", name, c.a, c.b, s, e, want, wanted)
			}
		}
		if n, e := rational.Compare(c.a, c.b); (e == api.OK) != c.hasOrder || e != api.OK && (e != api.ErrLimit || n != 0) {
			t.Errorf("Compare(%s, %s): %d, error %d", c.a, c.b, n, e)
		}
	}
}

func TestP2_1Division(t *testing.T) {
	for _, c := range []struct {
		a, b, want api.Num
		e          api.Errno
	}{
		{"3", "-6", "-1/2", api.OK}, {"-3", "-6", "1/2", api.OK}, {"-3", "6", "-1/2", api.OK}, {"0", "-6", "0", api.OK}, {"1/2", "-1/3", "-3/2", api.OK},
		{"-5/7", "-5/7", "1", api.OK}, {"0", "0", "", api.ErrZero}, {"1/2", "0", "", api.ErrZero}, {"-1", "0", "", api.ErrZero}, {num(nines(300)), "0", "", api.ErrZero},
		{num("1/", nines(300)), "0", "", api.ErrZero}, {"2/4", "0", "", api.ErrNumber}, {num(nines(301)), "0", "", api.ErrLimit}, {"", "0", "", api.ErrNumber},
		{"1", "-0", "", api.ErrNumber}, {"1", "0/2", "", api.ErrNumber}, {num(tenTo(150)), num("-1/", tenTo(149)), num("-", tenTo(299)), api.OK},
		{num(tenTo(150)), num("-1/", tenTo(150)), "", api.ErrLimit}, {num("-1/", tenTo(150)), num("-", tenTo(149)), num("1/", tenTo(299)), api.OK},
	} {
		if s, e := rational.Div(c.a, c.b); s != c.want || e != c.e {
			t.Errorf("Div(%q, %q): %q, error %d", c.a, c.b, s, e)
		}
	}
}

func TestP2_1Of(t *testing.T) {
	values := []int{0, 1, -1, 2, -2, 3, 6, -6, 12, 360, -1001, 1 << 31, -1 << 31, 1<<32 + 1, 1 << 61, 1<<62 - 1, 1 << 62, 1<<62 + 1, -1 << 62, -1<<62 - 1, math.MaxInt, -math.MaxInt, math.MinInt}
	for _, n := range values {
		if a, e := rational.Of(n, 0); a != "" || e != api.ErrZero {
			t.Errorf("Of(%d, 0): %q, error %d", n, a, e)
		}
		for _, d := range values {
			if d == 0 {
				continue
			}
			want := text(new(big.Rat).SetFrac(big.NewInt(int64(n)), big.NewInt(int64(d))))
			if a, e := rational.Of(n, d); a != want || e != api.OK {
				t.Errorf("Of(%d, %d): %q, error %d, not %s", n, d, a, e, want)
			}
		}
	}
}

func TestP2_1FloorAndInt(t *testing.T) {
	most := nines(300)
	for _, c := range []struct {
		a, floor api.Num
		n        int
		e        api.Errno
	}{
		{"0", "0", 0, api.OK}, {"5", "5", 5, api.OK}, {"-5", "-5", -5, api.OK}, {"7/2", "3", 0, api.ErrKind}, {"-7/2", "-4", 0, api.ErrKind}, {"1/3", "0", 0, api.ErrKind},
		{"-1/3", "-1", 0, api.ErrKind}, {"-2/3", "-1", 0, api.ErrKind}, {"-4/3", "-2", 0, api.ErrKind}, {num("-1/", most), "-1", 0, api.ErrKind}, {num("1/", most), "0", 0, api.ErrKind},
		{num("-", most, "/2"), num("-5", strings.Repeat("0", 299)), 0, api.ErrKind}, {num(most, "/2"), num("4", nines(299)), 0, api.ErrKind},
		{"4611686018427387904", "4611686018427387904", 1 << 62, api.OK}, {"-4611686018427387904", "-4611686018427387904", -1 << 62, api.OK},
		{"4611686018427387903", "4611686018427387903", 1<<62 - 1, api.OK}, {"-4611686018427387903", "-4611686018427387903", -1<<62 + 1, api.OK},
		{"4611686018427387905", "4611686018427387905", 0, api.ErrRange}, {"-4611686018427387905", "-4611686018427387905", 0, api.ErrRange},
		{"9223372036854775807", "9223372036854775807", 0, api.ErrRange}, {"-9223372036854775808", "-9223372036854775808", 0, api.ErrRange},
		{"9223372036854775808", "9223372036854775808", 0, api.ErrRange}, {"18446744073709551617", "18446744073709551617", 0, api.ErrRange}, {num("-", most), num("-", most), 0, api.ErrRange},
		{"9223372036854775809/2", "4611686018427387904", 0, api.ErrKind}, {num(most, "/17"), text(new(big.Rat).SetInt(new(big.Int).Div(parse(num(most)).Num(), big.NewInt(17)))), 0, api.ErrKind},
	} {
		if f, e := rational.Floor(c.a); f != c.floor || e != api.OK {
			t.Errorf("Floor(%s): %q, error %d, not %s", c.a, f, e, c.floor)
		}
		if n, e := rational.Int(c.a); n != c.n || e != c.e {
			t.Errorf("Int(%s): %d, error %d, not %d, %d", c.a, n, e, c.n, c.e)
		}
	}
}

// times returns a list of n elements a.
func times(n int, a api.Num) []api.Num { return slices.Repeat([]api.Num{a}, n) }

func TestP2_1Sum(t *testing.T) {
	long := num(nines(301))
	for i, c := range []struct {
		l    []api.Num
		want api.Num
		e    api.Errno
	}{
		{nil, "0", api.OK}, {[]api.Num{}, "0", api.OK}, {[]api.Num{"-7/3"}, "-7/3", api.OK}, {[]api.Num{"1/2", "1/3", "1/6"}, "1", api.OK}, {[]api.Num{"1/2", "-1/2"}, "0", api.OK},
		{times(4096, "1"), "4096", api.OK}, {times(4096, "-1/4096"), "-1", api.OK}, {times(4097, "1"), "", api.ErrLimit}, {times(4097, ""), "", api.ErrLimit},
		{append(times(4095, "0"), "x"), "", api.ErrNumber}, {append(times(4096, "0"), "x"), "", api.ErrLimit},
		{[]api.Num{"1", ""}, "", api.ErrNumber}, {[]api.Num{long, ""}, "", api.ErrLimit}, {[]api.Num{"", long}, "", api.ErrNumber},
		{[]api.Num{num(nines(300)), "1"}, "", api.ErrLimit}, {[]api.Num{num(nines(300)), "1", "-1"}, "", api.ErrLimit}, {[]api.Num{num(nines(300)), "-1", "1"}, num(nines(300)), api.OK},
		{[]api.Num{num(nines(300)), "1", "2/4"}, "", api.ErrNumber}, {[]api.Num{num(nines(300)), "1", "-1", "1/0"}, "", api.ErrNumber},
		{[]api.Num{num("1/", tenTo(150)), num("1/", tenTo(150))}, "", api.ErrLimit}, {[]api.Num{num("1/", tenTo(150)), num("1/", tenTo(149))}, num("11/", tenTo(150)), api.OK},
		{[]api.Num{num(nines(300)), num("1/", nines(300))}, "", api.ErrLimit},
	} {
		if s, e := rational.Sum(c.l); s != c.want || e != c.e {
			t.Errorf("sum %d: %q, error %d, not %q, %d", i, s, e, c.want, c.e)
		}
	}
}

func TestP2_1Examples(t *testing.T) {
	v := value(t)
	if s := v(rational.Add("1/2", "1/3")); s != "5/6" {
		t.Error("1/2 + 1/3:", s)
	}
	if s := v(rational.Floor("-7/2")); s != "-4" {
		t.Error("Floor(-7/2):", s)
	}
	if s := v(rational.Div("3", "-6")); s != "-1/2" {
		t.Error("3 / -6:", s)
	}
}

func TestP2_2Field(t *testing.T) {
	list := samples()
	r := random(4)
	v := value(t)
	for range 10000 {
		a, b, c := list[r.IntN(len(list))], list[r.IntN(len(list))], list[r.IntN(len(list))]
		if r.IntN(2) == 0 {
			a, b, c = anyNumber(r, 4, 3), anyNumber(r, 4, 3), anyNumber(r, 4, 3)
		}
		sum, product := v(rational.Add(a, b)), v(rational.Mul(a, b))
		if s := v(rational.Add(b, a)); s != sum {
			t.Errorf("sums of %s and %s: %s, %s", a, b, sum, s)
		}
		if s := v(rational.Mul(b, a)); s != product {
			t.Errorf("products of %s and %s: %s, %s", a, b, product, s)
		}
		if s := v(rational.Sub(sum, b)); s != a {
			t.Errorf("%s + %s - %s: %s", a, b, b, s)
		}
		if s := v(rational.Add(v(rational.Sub(a, b)), b)); s != a {
			t.Errorf("%s - %s + %s: %s", a, b, b, s)
		}
		if b != "0" {
			if s, u := v(rational.Div(product, b)), v(rational.Mul(v(rational.Div(a, b)), b)); s != a || u != a {
				t.Errorf("%s * %s / %s: %s; %s", a, b, b, s, u)
			}
		}
		// What three long numbers have together can be too long.
		if len(a)+len(b)+len(c) > 290 {
			continue
		}
		if s, u := v(rational.Add(sum, c)), v(rational.Add(a, v(rational.Add(b, c)))); s != u {
			t.Errorf("sums of %s, %s and %s: %s, %s", a, b, c, s, u)
		}
		if s, u := v(rational.Mul(product, c)), v(rational.Mul(a, v(rational.Mul(b, c)))); s != u {
			t.Errorf("products of %s, %s and %s: %s, %s", a, b, c, s, u)
		}
		if len(a)+len(b)+2*len(c) > 290 {
			continue
		}
		if s, u := v(rational.Mul(sum, c)), v(rational.Add(v(rational.Mul(a, c)), v(rational.Mul(b, c)))); s != u {
			t.Errorf("(%s + %s) %s: %s, %s", a, b, c, s, u)
		}
	}
	for _, a := range list {
		zero, itself, same, nothing, all := v(rational.Sub(a, a)), v(rational.Add("0", a)), v(rational.Mul("1", a)), v(rational.Mul(a, "0")), v(rational.Div(a, "1"))
		if zero != "0" || itself != a || same != a || nothing != "0" || all != a {
			t.Errorf("%s: %s, %s, %s, %s, %s", a, zero, itself, same, nothing, all)
		}
	}
}

func TestP2_3LowestTerms(t *testing.T) {
	v := value(t)
	for n := -40; n <= 40; n++ {
		for d := -40; d <= 40; d++ {
			if d == 0 {
				continue
			}
			a := v(rational.Of(n, d))
			for _, k := range []int{-30, -1, 2, 7, 1 << 40} {
				if b := v(rational.Of(n*k, d*k)); b != a {
					t.Errorf("%d/%d: %s, multiplied by %d: %s", n, d, a, k, b)
				}
			}
			if b := v(rational.Div(v(rational.Of(n, 1)), v(rational.Of(d, 1)))); b != a {
				t.Errorf("%d / %d: %s, %s", n, d, b, a)
			}
		}
	}
	r := random(5)
	for range 3000 {
		n, d, k := api.Num(digits(r, 1+r.IntN(60))), api.Num(digits(r, 1+r.IntN(60))), api.Num(digits(r, 1+r.IntN(60)))
		if a, b := v(rational.Div(n, d)), v(rational.Div(v(rational.Mul(n, k)), v(rational.Mul(d, k)))); a != b {
			t.Errorf("%s/%s: %s, multiplied by %s: %s", n, d, a, k, b)
		}
	}
}

func TestP2_4Order(t *testing.T) {
	v := value(t)
	list := samples()
	slices.SortFunc(list, func(a, b api.Num) int { return parse(a).Cmp(parse(b)) })
	r := random(6)
	for i, a := range list {
		for k := range 40 {
			j := r.IntN(len(list))
			if k < 3 {
				j = min(i+k, len(list)-1)
			}
			want := 0
			if i < j {
				want = -1
			} else if i > j {
				want = 1
			}
			b := list[j]
			if n, m := compare(t, a, b), compare(t, b, a); n != want || m != -want {
				t.Errorf("Compare(%s, %s): %d, the other way %d, not %d", a, b, n, m, want)
			}
			if sign := compare(t, v(rational.Sub(a, b)), "0"); sign != want {
				t.Errorf("sign of %s - %s: %d, not %d", a, b, sign, want)
			}
			c := anyNumber(r, 12, 3)
			if n, e := rational.Compare(v(rational.Add(a, c)), v(rational.Add(b, c))); n != want || e != api.OK {
				t.Errorf("Compare(%s + %s, %s + %s): %d, error %d", a, c, b, c, n, e)
			}
		}
	}
}

func TestP2_5Floor(t *testing.T) {
	v := value(t)
	list := samples()
	r := random(7)
	for range 3000 {
		list = append(list, anyNumber(r, 6, 3), anyNumber(r, 140, 140), anyNumber(r, 30, 10))
	}
	for _, a := range list {
		f := v(rational.Floor(a))
		if strings.Contains(string(f), "/") || compare(t, f, a) > 0 || compare(t, a, v(rational.Add(f, "1"))) >= 0 {
			t.Errorf("Floor(%s): %s", a, f)
		}
		if n, e := rational.Int(f); e == api.OK && v(rational.Of(n, 1)) != f {
			t.Errorf("Int(%s): %d", f, n)
		}
	}
}

func TestP2_6Sums(t *testing.T) {
	v := value(t)
	r := random(8)
	for range 300 {
		var a, b []api.Num
		for range r.IntN(12) {
			a = append(a, anyNumber(r, 9, 3))
		}
		for range r.IntN(12) {
			b = append(b, anyNumber(r, 9, 3))
		}
		both := v(rational.Sum(slices.Concat(a, b)))
		if s := v(rational.Add(v(rational.Sum(a)), v(rational.Sum(b)))); s != both {
			t.Errorf("sums of %v and %v: %s, together %s", a, b, s, both)
		}
		total := new(big.Rat)
		mixed := slices.Concat(b, a)
		for _, x := range mixed {
			total.Add(total, parse(x))
		}
		r.Shuffle(len(mixed), func(i, j int) { mixed[i], mixed[j] = mixed[j], mixed[i] })
		if s := v(rational.Sum(mixed)); s != both || s != text(total) {
			t.Errorf("sum of %v: %s, in another order %s, not %s", mixed, s, both, text(total))
		}
	}
}

func TestP2_7Parts(t *testing.T) {
	v := value(t)
	list := append(samples(), num(nines(300)), num("-1/", nines(300)), num(nines(300), "/", tenTo(299)))
	for _, a := range list {
		n, d, e := rational.Parts(a)
		want := parse(a)
		if e != api.OK || n != want.Num().String() || d != want.Denom().String() {
			t.Errorf("Parts(%s): %q, %q, error %d", a, n, d, e)
			continue
		}
		if b := v(rational.Div(api.Num(n), api.Num(d))); b != a {
			t.Errorf("%s / %s: %s, not %s", n, d, b, a)
		}
		if new(big.Int).GCD(nil, nil, new(big.Int).Abs(want.Num()), want.Denom()).Cmp(big.NewInt(1)) != 0 {
			t.Errorf("Parts(%s): %s, %s have a common divisor", a, n, d)
		}
	}
}
