package measure_test

import (
	"iter"
	"math"
	"math/big"
	"math/rand/v2"
	"slices"
	"strings"
	"testing"

	"kingpost/api"
	"kingpost/measure"
)

// The results are compared with those of reference_test.go, and with each
// other as the promises say.

// samePlaces compares Print and Exact with what they should return.
func samePlaces(t *testing.T, a api.Num, places int) {
	t.Helper()
	s, e := measure.Print(a, places)
	if want, f := printed(a, places); s != want || e != f {
		t.Errorf("Print(%q, %d): %q, %d, not %q, %d", a, places, s, e, want, f)
	}
	x, e := measure.Exact(a, places)
	if want, f := isExact(a, places); x != want || e != f {
		t.Errorf("Exact(%q, %d): %v, %d, not %v, %d", a, places, x, e, want, f)
	}
}

// sameFeet compares Feet with what it should return.
func sameFeet(t *testing.T, a api.Num) {
	t.Helper()
	s, e := measure.Feet(a)
	if want, f := feet(a); s != want || e != f {
		t.Errorf("Feet(%q): %q, %d, not %q, %d", a, s, e, want, f)
	}
}

// sameText compares what reads a text with what it should return.
func sameText(t *testing.T, s string) {
	t.Helper()
	a, e := measure.Parse(s)
	if want, f := read(s); a != want || e != f {
		t.Errorf("Parse(%q): %q, %d, not %q, %d", s, a, e, want, f)
	}
	a, e = measure.ParseFeet(s)
	if want, f := readFeet(s); a != want || e != f {
		t.Errorf("ParseFeet(%q): %q, %d, not %q, %d", s, a, e, want, f)
	}
	l, e := measure.Words(s)
	if want, f := words(s); !slices.Equal(l, want) || e != f {
		t.Errorf("Words(%q): %q, %d, not %q, %d", s, l, e, want, f)
	}
	if is := measure.IsName(s); is != isName(s) {
		t.Errorf("IsName(%q): %v", s, is)
	}
}

// texts yields all texts of some bytes of at most a length.
func texts(bytes string, length int) iter.Seq[string] {
	return func(yield func(string) bool) {
		level := []string{""}
		for range length + 1 {
			var next []string
			for _, s := range level {
				if !yield(s) {
					return
				}
				for i := range len(bytes) {
					next = append(next, s+bytes[i:i+1])
				}
			}
			level = next
		}
	}
}

// anyInt is an integer of up to so many digits, which ends in some zeros and
// nines now and then.
func anyInt(r *rand.Rand, digits int) *big.Int {
	var b strings.Builder
	for b.Len() < 1+r.IntN(digits) {
		b.WriteByte(byte('0' + r.IntN(10)))
	}
	s := b.String()
	switch tail := r.IntN(len(s)); r.IntN(4) {
	case 0:
		s = s[:len(s)-tail] + zeros(tail)
	case 1:
		s = s[:len(s)-tail] + nines(tail)
	}
	n := whole(s)
	if r.IntN(2) == 0 {
		n.Neg(n)
	}
	return n
}

// anyNum is a number, sometimes with only twos and fives in its denominator.
func anyNum(r *rand.Rand, digits int) api.Num {
	d := anyInt(r, digits)
	switch d.Abs(d); r.IntN(4) {
	case 0:
		d = whole(tenTo(r.IntN(digits)))
	case 1:
		d = new(big.Int).Exp(big.NewInt(2), big.NewInt(r.Int64N(int64(digits))), nil)
	case 2:
		d = big.NewInt(60 * (1 + r.Int64N(100)))
	}
	if d.Sign() == 0 {
		d.SetInt64(1)
	}
	return text(new(big.Rat).SetFrac(anyInt(r, digits), d))
}

// badNumbers are no numbers.
func badNumbers() []api.Num {
	return []api.Num{"", "x", "-", "-0", "01", "-01", "+1", "1.5", "1/1", "2/4", "-2/4", "0/2", "1/0", "1/", "/2", "1/-2", " 1", "1 ", "\x00", "1/2/3", num(nines(301), "x"), num(nines(91), "/", nines(91)), num("2", zeros(90), "/4"), num("1/0", nines(90))}
}

// longNumbers have too many digits, for layer 2 or only for this layer.
func longNumbers() []api.Num {
	return []api.Num{num(tenTo(90)), num("-", tenTo(90)), num(nines(91)), num("1/", tenTo(90)), num("-7/", tenTo(90)), num(tenTo(90), "/", nines(90)), num(nines(90), "/", tenTo(90)), num(nines(300)), num("-", nines(300)), num("1/", nines(300)), num(nines(301)), num("-", nines(301)), num("1/", nines(301)), num(nines(400), "/", nines(400))}
}

func TestP7_1Print(t *testing.T) {
	for _, x := range []struct {
		a      api.Num
		places int
		want   string
		exact  bool
	}{
		// no places, and half of the last one away from two integers
		{"0", 0, "0", true}, {"7", 0, "7", true}, {"-7", 0, "-7", true}, {"120", 0, "120", true}, {"5/2", 0, "3", false}, {"-5/2", 0, "-2", false}, {"1/2", 0, "1", false}, {"-1/2", 0, "0", false}, {"3/2", 0, "2", false}, {"-3/2", 0, "-1", false}, {"-1/3", 0, "0", false}, {"-2/3", 0, "-1", false}, {"2/3", 0, "1", false}, {"1/3", 0, "0", false}, {"19/2", 0, "10", false}, {"-19/2", 0, "-9", false}, {"199/2", 0, "100", false},
		// places, with whole parts of 0 and others
		{"0", 1, "0.0", true}, {"0", 3, "0.000", true}, {"1/3", 2, "0.33", false}, {"2/3", 2, "0.67", false}, {"-1/3", 2, "-0.33", false}, {"-2/3", 2, "-0.67", false}, {"7", 2, "7.00", true}, {"-7", 2, "-7.00", true}, {"1/8", 3, "0.125", true}, {"1/8", 2, "0.13", false}, {"-1/8", 2, "-0.12", false}, {"1/8", 1, "0.1", false}, {"1/8", 4, "0.1250", true}, {"1/20", 1, "0.1", false}, {"-1/20", 1, "0.0", false}, {"-1/10", 1, "-0.1", true}, {"-3/20", 1, "-0.1", false}, {"3/20", 1, "0.2", false}, {"-1/100", 2, "-0.01", true}, {"-1/200", 2, "0.00", false}, {"-101/20000", 2, "-0.01", false}, {"-99/20000", 2, "0.00", false}, {"99/20000", 2, "0.00", false}, {"1/200", 2, "0.01", false}, {"199/200", 2, "1.00", false}, {"-199/200", 2, "-0.99", false}, {"1999/200", 2, "10.00", false}, {"12345/16", 3, "771.563", false}, {"2469/20", 2, "123.45", true}, {"-2469/20", 2, "-123.45", true}, {"1000001/1000", 3, "1000.001", true},
	} {
		s, e := measure.Print(x.a, x.places)
		is, f := measure.Exact(x.a, x.places)
		if s != x.want || is != x.exact || e != api.OK || f != api.OK {
			t.Errorf("%s with %d places: %q, %v, not %q, %v; errors %d, %d", x.a, x.places, s, is, x.want, x.exact, e, f)
		}
		samePlaces(t, x.a, x.places)
	}
}

func TestP7_1LongPrints(t *testing.T) {
	for _, x := range []struct {
		a      api.Num
		places int
		want   string
		exact  bool
	}{
		{"1", 100, "1." + zeros(100), true}, {"0", 100, "0." + zeros(100), true}, {"-1/3", 100, "-0." + strings.Repeat("3", 100), false}, {"2/3", 100, "0." + strings.Repeat("6", 99) + "7", false},
		{num(nines(90)), 0, nines(90), true}, {num(nines(90)), 100, nines(90) + "." + zeros(100), true}, {num("-", nines(90)), 100, "-" + nines(90) + "." + zeros(100), true}, {num("1/", tenTo(89)), 89, "0." + zeros(88) + "1", true}, {num("-1/", tenTo(89)), 89, "-0." + zeros(88) + "1", true}, {num("1/", tenTo(89)), 88, "0." + zeros(88), false}, {num("1/", tenTo(89)), 100, "0." + zeros(88) + "1" + zeros(11), true},
		{num("1/", nines(90)), 100, "0." + zeros(89) + "1" + zeros(10), false}, {num("-1/", nines(90)), 90, "-0." + zeros(89) + "1", false}, {num("-1/", nines(90)), 89, "0." + zeros(89), false}, {num(nines(90), "/", tenTo(89)), 89, "9." + nines(89), true}, {num(nines(90), "/", tenTo(89)), 88, "10." + zeros(88), false}, {num(nines(90), "/", tenTo(89)), 0, "10", false},
	} {
		s, e := measure.Print(x.a, x.places)
		is, f := measure.Exact(x.a, x.places)
		if s != x.want || is != x.exact || e != api.OK || f != api.OK {
			t.Errorf("%s with %d places: %q, %v, not %q, %v; errors %d, %d", x.a, x.places, s, is, x.want, x.exact, e, f)
		}
		samePlaces(t, x.a, x.places)
	}
}

func TestP7_1RandomPrints(t *testing.T) {
	r := random(1)
	for range 4000 {
		samePlaces(t, anyNum(r, 1+r.IntN(90)), r.IntN(101))
	}
	for range 4000 {
		samePlaces(t, anyNum(r, 8), r.IntN(8))
	}
	for n := int64(-60); n <= 60; n++ {
		for d := int64(1); d <= 40; d++ {
			a := text(big.NewRat(n, d))
			sameFeet(t, a)
			for places := range 3 {
				samePlaces(t, a, places)
			}
		}
	}
}

// Errors come in the order of the chapter: that of layer 2, the digits, and
// then the places.
func TestP7_1PrintErrors(t *testing.T) {
	good := []api.Num{"0", "1", "-5/2", num(nines(90)), num("-", nines(90)), num("1/", nines(90)), num(nines(90), "/", tenTo(89))}
	wrong := []int{-1, 101, -100, 1000, math.MinInt, math.MaxInt}
	right := []int{0, 1, 99, 100}
	for _, x := range []struct {
		numbers []api.Num
		places  []int
		want    api.Errno
	}{
		{good, right, api.OK}, {good, wrong, api.ErrRange}, {badNumbers(), slices.Concat(right, wrong), api.ErrNumber}, {longNumbers(), slices.Concat(right, wrong), api.ErrLimit},
	} {
		for _, a := range x.numbers {
			for _, places := range x.places {
				s, e := measure.Print(a, places)
				is, f := measure.Exact(a, places)
				if e != x.want || f != x.want || e != api.OK && (s != "" || is) {
					t.Errorf("%q with %d places: %q, %d and %v, %d, not %d", a, places, s, e, is, f, x.want)
				}
				samePlaces(t, a, places)
			}
			if x.want == api.ErrRange {
				continue
			}
			if s, e := measure.Feet(a); e != x.want || e != api.OK && s != "" {
				t.Errorf("%q in feet: %q, %d, not %d", a, s, e, x.want)
			}
			sameFeet(t, a)
		}
	}
}

func TestP7_1Parse(t *testing.T) {
	for s, want := range map[string]api.Num{
		"0": "0", "-0": "0", "00": "0", "-00": "0", "0.0": "0", "-0.0": "0", "0/7": "0", "-0/7": "0", "7": "7", "-7": "-7", "007": "7", "-007": "-7", "120": "120",
		"12.50": "25/2", "012.50": "25/2", "-0.25": "-1/4", "00.25": "1/4", "3.000": "3", "0.001": "1/1000", "1.05": "21/20", "0.10": "1/10",
		"4/6": "2/3", "-6/3": "-2", "010/020": "1/2", "1/1": "1", "5/001": "5", "1/10": "1/10", "10/1": "10", "100/8": "25/2",
		nines(90): api.Num(nines(90)), "-" + nines(89): num("-", nines(89)), zeros(89) + "7": "7", "-" + zeros(88) + "7": "-7", "0." + zeros(87) + "1": num("1/", tenTo(88)), nines(88) + ".5": num("1", nines(88), "/2"), "1/" + nines(88): num("1/", nines(88)), zeros(90): "0", "1/" + zeros(87) + "2": "1/2",
	} {
		if a, e := measure.Parse(s); a != want || e != api.OK {
			t.Errorf("%q: %q, %d, not %q", s, a, e, want)
		}
		sameText(t, s)
	}
}

func TestP7_1ParseErrors(t *testing.T) {
	for want, l := range map[api.Errno][]string{
		api.ErrSyntax: {"", "-", "--1", "+1", "-+1", "1.", ".5", "-.5", ".", "-.", "1/", "/2", "-/2", "/", "1.2.3", "1..2", "1/2/3", "1//2", "1.5/2", "1/2.5", "1./2", "1/.2", "1.-2", "1/-2", "1/+2", "1-", "1 ", " 1", "1 /2", "1,5", "1e5", "0x1", "1_0", "x", "\x00", "1\n", "\xff", "١", "inf", "NaN", "./", "1/0x", "0/0.0", strings.Repeat("x", 90), nines(89) + "."},
		api.ErrZero:   {"1/0", "0/0", "-1/0", "0/00", "-0/000", "1/" + zeros(88)},
		api.ErrLimit:  {nines(91), zeros(91), strings.Repeat("x", 91), "-" + nines(90), "1/" + zeros(89), nines(90) + ".", strings.Repeat("-", 1000)},
	} {
		for _, s := range l {
			if a, e := measure.Parse(s); a != "" || e != want {
				t.Errorf("%q: %q, %d, not %d", s, a, e, want)
			}
			sameText(t, s)
		}
	}
}

func TestP7_1Feet(t *testing.T) {
	for a, want := range map[api.Num]string{
		"0": `0'0"0`, "127/60": `0'0"1`, "-127/60": `-0'0"1`, "1397/60": `0'0"11`, "127/5": `0'1"0`, "-127/5": `-0'1"0`, "1397/5": `0'11"0`, "18161/60": `0'11"11`, "1524/5": `1'0"0`, "-1524/5": `-1'0"0`, "1000": `3'3"4`, "-1000": `-3'3"4`, "3048": `10'0"0`, "237617/60": `12'11"11`,
		// half of a twelfth away from two, and a bit less or more
		"127/120": `0'0"1`, "-127/120": `0'0"0`, "-1": `0'0"0`, "1": `0'0"0`, "-2": `-0'0"1`, "2": `0'0"1`, "127/40": `0'0"2`, "-127/40": `-0'0"1`, "2921/120": `0'1"0`, "-2921/120": `-0'0"11`, "36449/120": `1'0"0`, "-36449/120": `-0'11"11`, "364489/1200": `0'11"11`,
		"1/3": `0'0"0`, num("1/", nines(90)): `0'0"0`, num("-1/", nines(90)): `0'0"0`, num("3048", zeros(86)): tenTo(87) + `'0"0`, num("-3048", zeros(86)): "-" + tenTo(87) + `'0"0`,
	} {
		if s, e := measure.Feet(a); s != want || e != api.OK {
			t.Errorf("%s: %q, %d, not %q", a, s, e, want)
		}
		sameFeet(t, a)
	}
	for _, a := range []api.Num{num(nines(90)), num("-", nines(90)), num(nines(90), "/", tenTo(89))} {
		sameFeet(t, a)
	}
}

func TestP7_1ParseFeet(t *testing.T) {
	for s, want := range map[string]api.Num{
		`0'0"0`: "0", `0'0"1`: "127/60", `-0'0"1`: "-127/60", `0'0"11`: "1397/60", `0'1"0`: "127/5", `0'11"0`: "1397/5", `-0'11"0`: "-1397/5", `0'10"10`: "1651/6", `1'0"0`: "1524/5", `-1'0"0`: "-1524/5", `12'11"11`: "237617/60", `3'3"4`: "14986/15", `10'0"0`: "3048", `100'10"1`: "1844167/60",
	} {
		if a, e := measure.ParseFeet(s); a != want || e != api.OK {
			t.Errorf("%q: %q, %d, not %q", s, a, e, want)
		}
		sameText(t, s)
	}
	for want, l := range map[api.Errno][]string{
		api.ErrSyntax: {"", "-", "0", "1", "1'", "1'2", `1'2"`, `'0"0`, `1'"0`, `'"`, `-'"`, `0'12"0`, `0'0"12`, `0'99"0`, `0'0"100`, `01'0"0`, `00'0"0`, `0'01"0`, `0'00"0`, `0'0"00`, `0'0"01`, `0'011"0`, `-0'0"0`, `-00'0"0`, `--1'0"0`, `--0'0"1`, `+1'0"0`, `1'-1"0`, `1'0"-1`, `0'-0"0`, `0'0"-0`, `1'0"0 `, ` 1'0"0`, `1"0'0`, `1'0'0`, `1"0"0`, `1''0"0`, `1'0""0`, `1'0"0"`, `1'0"0'`, `1'0"0"0`, `1'0'0"0`, `x'0"0`, `1'x"0`, `1'0"x`, `1.5'0"0`, `1'1/2"0`, "1′0″0", `1'0"1e`, strings.Repeat("x", 90), nines(84) + `'11"12`},
		api.ErrLimit:  {strings.Repeat("1", 91), strings.Repeat("x", 91), nines(87) + `'0"0`, nines(85) + `'11"11`, "-" + nines(86) + `'0"0`},
	} {
		for _, s := range l {
			if a, e := measure.ParseFeet(s); a != "" || e != want {
				t.Errorf("%q: %q, %d, not %d", s, a, e, want)
			}
			sameText(t, s)
		}
	}
}

// Texts of 90 bytes are read, also if what they say has more digits than may
// be printed.
func TestP7_1LongFeet(t *testing.T) {
	for _, s := range []string{nines(86) + `'0"0`, nines(84) + `'11"11`, "-" + nines(85) + `'0"0`, nines(86) + `'0"1`, nines(86) + `'1"7`, tenTo(85) + `'0"0`} {
		a, e := measure.ParseFeet(s)
		if e != api.OK {
			t.Errorf("%q: %d", s, e)
		}
		sameText(t, s)
		sameFeet(t, a)
	}
	a, _ := measure.ParseFeet(nines(86) + `'0"1`)
	if n, _, _ := strings.Cut(string(a), "/"); len(n) != 91 {
		t.Errorf("%q", a)
	}
}

func TestP7_1Texts(t *testing.T) {
	for s := range texts("-01./", 6) {
		sameText(t, s)
	}
	for s := range texts(`-012'"`, 6) {
		sameText(t, s)
	}
	for s := range texts(" a!~\t", 5) {
		sameText(t, s)
	}
	for c := range 256 {
		one := string([]byte{byte(c)})
		for _, s := range []string{one, "1" + one, one + "1", "1" + one + "1", `1'` + one + `"1`, one + `'1"1`, `1'1"` + one, "1" + one + `1"1`, "1'1" + one + "1", "a " + one, one + " a", "a " + one + " b"} {
			sameText(t, s)
		}
	}
}

// Whole parts of 0 to 13 in all three places of a text of feet.
func TestP7_1AllInches(t *testing.T) {
	digits := []string{"0", "1", "2", "9", "10", "11", "12", "13", "00", "01", "011", "-1", "", "144"}
	for _, sign := range []string{"", "-"} {
		for _, f := range digits {
			for _, i := range digits {
				for _, l := range digits {
					sameText(t, sign+f+"'"+i+`"`+l)
				}
			}
		}
	}
}

// What is printed differs by at most half of the last place, and by exactly
// half only if it is greater.
func TestP7_2Rounding(t *testing.T) {
	r := random(2)
	for i := range 3000 {
		places := r.IntN(40)
		a := anyNum(r, 1+r.IntN(50))
		if i%3 == 0 {
			// a number of whole halves of the last place
			a = text(over(rat(anyInt(r, 40)), times(power(places), big.NewRat(2, 1))))
		}
		s, e := measure.Print(a, places)
		if e != api.OK {
			t.Fatalf("%s with %d places: %d", a, places, e)
		}
		shown, ok := new(big.Rat).SetString(s)
		if !ok {
			t.Fatalf("%s with %d places: %q", a, places, s)
		}
		most := over(half(), power(places))
		more := minus(shown, parse(a))
		if more.Cmp(most) > 0 || more.Cmp(new(big.Rat).Neg(most)) <= 0 {
			t.Errorf("%s with %d places: %q", a, places, s)
		}
		if _, behind, _ := strings.Cut(s, "."); len(behind) != places {
			t.Errorf("%s with %d places: %q", a, places, s)
		}
	}
}

// A text is exact exactly if reading it yields the number, and stays so with
// further places.
func TestP7_3Exactness(t *testing.T) {
	r := random(3)
	number := func() api.Num {
		switch r.IntN(3) {
		case 0:
			return text(over(rat(anyInt(r, 12)), power(r.IntN(20))))
		case 1:
			return text(big.NewRat(r.Int64N(2000)-1000, 1<<r.IntN(20)))
		}
		return anyNum(r, 15)
	}
	for range 2000 {
		a, was := number(), false
		for places := range 41 {
			s, e := measure.Print(a, places)
			is, f := measure.Exact(a, places)
			back, g := measure.Parse(s)
			if e != api.OK || f != api.OK || g != api.OK || is != (back == a) || was && !is {
				t.Fatalf("%s with %d places: %q, %v, read as %q; errors %d, %d, %d", a, places, s, is, back, e, f, g)
			}
			was = is
		}
	}
}

// A number is read as it is; zeros in front, and behind a point, do not
// matter, nor that terms are not lowest.
func TestP7_4Reading(t *testing.T) {
	r := random(4)
	reads := func(s string, want api.Num) {
		t.Helper()
		if a, e := measure.Parse(s); a != want || e != api.OK {
			t.Errorf("%q: %q, %d, not %q", s, a, e, want)
		}
	}
	for range 2000 {
		a := anyNum(r, 30)
		reads(string(a), a)
		size, isMinus := strings.CutPrefix(string(a), "-")
		sign := ""
		if isMinus {
			sign = "-"
		}
		n, d, isBroken := strings.Cut(size, "/")
		reads(sign+zeros(r.IntN(20))+size, a)
		if isBroken {
			reads(sign+zeros(r.IntN(9))+n+"/"+zeros(r.IntN(9))+d, a)
		} else {
			reads(string(a)+"."+zeros(1+r.IntN(20)), a)
			d = "1"
		}
		k := big.NewInt(1 + r.Int64N(1000))
		reads(sign+new(big.Int).Mul(whole(n), k).String()+"/"+new(big.Int).Mul(whole(d), k).String(), a)

		places := 1 + r.IntN(20)
		s := sign + n + "." + zeros(r.IntN(places)) + "7"
		b, e := measure.Parse(s)
		if want, _ := read(s); b != want || e != api.OK {
			t.Errorf("%q: %q, %d", s, b, e)
		}
		reads(s+zeros(r.IntN(9)), b)
		reads(sign+zeros(r.IntN(9))+strings.TrimPrefix(s, "-"), b)
	}
}

// What is read is a multiple of a twelfth that is printed in the same way, and
// a number is printed as the nearest one.
func TestP7_5Feet(t *testing.T) {
	for n := int64(-2000); n <= 2000; n++ {
		a := text(times(big.NewRat(n, 1), twelfth()))
		s, e := measure.Feet(a)
		if back, f := measure.ParseFeet(s); back != a || e != api.OK || f != api.OK {
			t.Errorf("%s: %q, read as %s; errors %d, %d", a, s, back, e, f)
		}
	}
	r := random(5)
	for i := range 3000 {
		a := anyNum(r, 1+r.IntN(80))
		if i%3 == 0 {
			// a number of whole halves of a twelfth
			a = text(times(rat(anyInt(r, 80)), over(twelfth(), big.NewRat(2, 1))))
		}
		s, e := measure.Feet(a)
		b, f := measure.ParseFeet(s)
		if e != api.OK || f != api.OK {
			t.Fatalf("%s: %q; errors %d, %d", a, s, e, f)
		}
		sameFeet(t, a)
		sameText(t, s)
		more := over(minus(parse(b), parse(a)), twelfth())
		if more.Cmp(half()) > 0 || more.Cmp(big.NewRat(-1, 2)) <= 0 {
			t.Errorf("%s: %q", a, s)
		}
		if again, e := measure.Feet(b); again != s || e != api.OK || !over(parse(b), twelfth()).IsInt() {
			t.Errorf("%s: %q, and again %q, %d", a, s, again, e)
		}
	}
}

// Words with spaces between them are the line.
func TestP7_6Words(t *testing.T) {
	r := random(6)
	for range 2000 {
		var l []string
		for range r.IntN(12) {
			word := make([]byte, 1+r.IntN(8))
			for i := range word {
				word[i] = byte(33 + r.IntN(94))
			}
			l = append(l, string(word))
		}
		line := strings.Join(l, " ")
		if got, e := measure.Words(line); !slices.Equal(got, l) || e != api.OK {
			t.Errorf("%q: %q, %d, not %q", line, got, e, l)
		}
		if line == "" {
			continue
		}
		at := r.IntN(len(line))
		sameText(t, line[:at]+string([]byte{byte(r.IntN(256))})+line[at+1:])
		sameText(t, line[:at]+" "+line[at:])
	}
}

func TestP7_6WordErrors(t *testing.T) {
	for want, lines := range map[api.Errno][]string{
		api.OK:        {"", "a", "!", "~", "a b", "side 12 ~!", strings.Repeat("x", 65536), strings.Repeat("x ", 32767) + "xx", strings.Repeat("x ", 32767) + "x"},
		api.ErrSyntax: {" ", "  ", " a", "a ", "a  b", "a b ", " a b", "a\tb", "a\nb", "a\n", "\x00", "\x1f", "\x7f", "a \x7f", "\x80", "\xff", "ä", "a\u00a0b", strings.Repeat(" ", 65536), strings.Repeat("x ", 32768), strings.Repeat("x", 65535) + "\x7f"},
		api.ErrLimit:  {strings.Repeat("x", 65537), strings.Repeat(" ", 65537), strings.Repeat("x ", 40000), strings.Repeat("\x00", 65537)},
	} {
		for _, s := range lines {
			l, e := measure.Words(s)
			if e != want || e != api.OK && len(l) > 0 || e == api.OK && strings.Join(l, " ") != s {
				t.Errorf("%.20q of %d bytes: %d words, %d, not %d", s, len(s), len(l), e, want)
			}
			sameText(t, s)
		}
	}
}

// Names are words of letters and digits, 1 to 16 of them.
func TestP7_7Names(t *testing.T) {
	for s, want := range map[string]bool{
		"": false, "a": true, "z": true, "A": true, "Z": true, "0": true, "9": true, "Side12": true, "a b": false, " a": false, "a ": false, "a_b": false, "a-b": false, "a.b": false, "a\n": false, "@": false, "[": false, "`": false, "{": false, "/": false, ":": false, "ä": false, "\xe4": false, "é1": false, "１": false, "\x00": false,
		"1234567890123456": true, "12345678901234567": false, "abcdefghijklmnop": true, "abcdefghijklmnopq": false, "abcdefghijklmno_": false, strings.Repeat("a", 65537): false,
	} {
		if measure.IsName(s) != want {
			t.Errorf("%q", s)
		}
	}
	for c := range 256 {
		s := string([]byte{byte(c)})
		isLetter := strings.Contains("abcdefghijklmnopqrstuvwxyzABCDEFGHIJKLMNOPQRSTUVWXYZ0123456789", s)
		for _, name := range []string{s, "a" + s, s + "a", "abcdefgh" + s + "1234567"} {
			if measure.IsName(name) != isLetter {
				t.Errorf("%q", name)
			}
			if l, e := measure.Words(name); isLetter && (e != api.OK || !slices.Equal(l, []string{name})) {
				t.Errorf("%q: %q, %d", name, l, e)
			}
		}
		if measure.IsName("abcdefgh" + s + "12345678") {
			t.Errorf("%q", s)
		}
	}
}

// A greater number is never printed as a lesser one.
func TestP7_8Order(t *testing.T) {
	r := random(8)
	shown := func(a api.Num, places int) *big.Rat {
		s, e := measure.Print(a, places)
		v, ok := new(big.Rat).SetString(s)
		if e != api.OK || !ok {
			t.Fatalf("%s with %d places: %q, %d", a, places, s, e)
		}
		return v
	}
	read := func(a api.Num) *big.Rat {
		s, e := measure.Feet(a)
		b, f := measure.ParseFeet(s)
		if e != api.OK || f != api.OK {
			t.Fatalf("%s: %q; errors %d, %d", a, s, e, f)
		}
		return parse(b)
	}
	for range 3000 {
		a := anyNum(r, 10)
		places := r.IntN(6)
		b := text(plus(parse(a), over(big.NewRat(1, 1+r.Int64N(9)), power(r.IntN(9)))))
		if shown(a, places).Cmp(shown(b, places)) > 0 {
			t.Errorf("%s and %s with %d places", a, b, places)
		}
		if read(a).Cmp(read(b)) > 0 {
			t.Errorf("%s and %s in feet", a, b)
		}
	}
	for n := int64(-300); n < 300; n++ {
		a, b := text(big.NewRat(n, 40)), text(big.NewRat(n+1, 40))
		if shown(a, 1).Cmp(shown(b, 1)) > 0 || read(a).Cmp(read(b)) > 0 {
			t.Errorf("%s and %s", a, b)
		}
	}
}
