package measure_test

import (
	"math/big"
	"math/rand/v2"
	"regexp"
	"strings"

	"kingpost/api"
	"kingpost/rational"
)

// What the functions should return is found here by the definitions of the
// chapter with math/big and regular expressions; of layer 2, only the error of
// Check is asked.

var (
	decimalForm = regexp.MustCompile(`\A(-?)([0-9]+)(\.([0-9]+)|/([0-9]+))?\z`)
	feetForm    = regexp.MustCompile(`\A(-?)(0|[1-9][0-9]*)'(0|[1-9]|1[01])"(0|[1-9]|1[01])\z`)
	lineForm    = regexp.MustCompile(`\A[!-~]+( [!-~]+)*\z`)
	nameForm    = regexp.MustCompile(`\A[a-zA-Z0-9]{1,16}\z`)
)

func nines(n int) string          { return strings.Repeat("9", n) }
func zeros(n int) string          { return strings.Repeat("0", n) }
func tenTo(n int) string          { return "1" + zeros(n) }
func num(parts ...string) api.Num { return api.Num(strings.Join(parts, "")) }
func random(n uint) *rand.Rand    { return rand.New(rand.NewPCG(uint64(n), 70)) }

func parse(a api.Num) *big.Rat {
	r, ok := new(big.Rat).SetString(string(a))
	if !ok {
		panic("no number: " + string(a))
	}
	return r
}

func text(r *big.Rat) api.Num      { return api.Num(r.RatString()) }
func plus(a, b *big.Rat) *big.Rat  { return new(big.Rat).Add(a, b) }
func minus(a, b *big.Rat) *big.Rat { return new(big.Rat).Sub(a, b) }
func times(a, b *big.Rat) *big.Rat { return new(big.Rat).Mul(a, b) }
func over(a, b *big.Rat) *big.Rat  { return new(big.Rat).Quo(a, b) }
func half() *big.Rat               { return big.NewRat(1, 2) }
func twelfth() *big.Rat            { return big.NewRat(127, 60) }
func rat(n *big.Int) *big.Rat      { return new(big.Rat).SetInt(n) }
func power(n int) *big.Rat         { return parse(api.Num(tenTo(n))) }
func long(n *big.Int) bool         { return len(new(big.Int).Abs(n).String()) > 90 }

// whole is the integer of digits, with a minus sign or without.
func whole(digits string) *big.Int {
	n, ok := new(big.Int).SetString(digits, 10)
	if !ok {
		panic("no integer: " + digits)
	}
	return n
}

// rounded is the nearest integer, the greater one of two.
func rounded(r *big.Rat) *big.Int {
	more := plus(r, half())
	// Euclid's quotient is rounded down for a positive divisor.
	return new(big.Int).Div(more.Num(), more.Denom())
}

// checked returns the error of a number that is to be printed.
func checked(a api.Num) api.Errno {
	if e := rational.Check(a); e != api.OK {
		return e
	}
	if r := parse(a); long(r.Num()) || long(r.Denom()) {
		return api.ErrLimit
	}
	return api.OK
}

// placed is checked, and then the error for the places.
func placed(a api.Num, places int) api.Errno {
	if e := checked(a); e != api.OK {
		return e
	}
	if places < 0 || places > 100 {
		return api.ErrRange
	}
	return api.OK
}

// printed is what Print should return: its digits are taken from the last one
// on.
func printed(a api.Num, places int) (string, api.Errno) {
	if e := placed(a, places); e != api.OK {
		return "", e
	}
	n := rounded(times(parse(a), power(places)))
	sign, rest, digits, ten := "", new(big.Int).Abs(n), "", big.NewInt(10)
	if n.Sign() < 0 {
		sign = "-"
	}
	for i := 0; i <= places || rest.Sign() > 0; i++ {
		if places > 0 && i == places {
			digits = "." + digits
		}
		digit := new(big.Int)
		rest.QuoRem(rest, ten, digit)
		digits = digit.String() + digits
	}
	return sign + digits, api.OK
}

// isExact is what Exact should return.
func isExact(a api.Num, places int) (bool, api.Errno) {
	if e := placed(a, places); e != api.OK {
		return false, e
	}
	return times(parse(a), power(places)).IsInt(), api.OK
}

// read is what Parse should return.
func read(s string) (api.Num, api.Errno) {
	if len(s) > 90 {
		return "", api.ErrLimit
	}
	m := decimalForm.FindStringSubmatch(s)
	if m == nil {
		return "", api.ErrSyntax
	}
	r := rat(whole(m[2]))
	switch {
	case m[4] != "":
		r = plus(r, over(rat(whole(m[4])), power(len(m[4]))))
	case m[5] != "":
		d := whole(m[5])
		if d.Sign() == 0 {
			return "", api.ErrZero
		}
		r = over(r, rat(d))
	}
	if m[1] != "" {
		r.Neg(r)
	}
	return text(r), api.OK
}

// feet is what Feet should return.
func feet(a api.Num) (string, api.Errno) {
	if e := checked(a); e != api.OK {
		return "", e
	}
	n := rounded(over(parse(a), twelfth()))
	sign := ""
	if n.Sign() < 0 {
		sign = "-"
	}
	n.Abs(n)
	inches, last := new(big.Int).QuoRem(n, big.NewInt(12), new(big.Int))
	whole, inches := new(big.Int).QuoRem(inches, big.NewInt(12), new(big.Int))
	return sign + whole.String() + "'" + inches.String() + `"` + last.String(), api.OK
}

// readFeet is what ParseFeet should return.
func readFeet(s string) (api.Num, api.Errno) {
	if len(s) > 90 {
		return "", api.ErrLimit
	}
	m := feetForm.FindStringSubmatch(s)
	if m == nil || s == `-0'0"0` {
		return "", api.ErrSyntax
	}
	n := new(big.Int).Mul(whole(m[2]), big.NewInt(144))
	n.Add(n, new(big.Int).Mul(whole(m[3]), big.NewInt(12))).Add(n, whole(m[4]))
	if m[1] != "" {
		n.Neg(n)
	}
	return text(times(rat(n), twelfth())), api.OK
}

// words is what Words should return.
func words(s string) ([]string, api.Errno) {
	switch {
	case len(s) > 65536:
		return nil, api.ErrLimit
	case s == "":
		return nil, api.OK
	case !lineForm.MatchString(s):
		return nil, api.ErrSyntax
	}
	return strings.Split(s, " "), api.OK
}

// isName is what IsName should return.
func isName(s string) bool {
	return nameForm.MatchString(s)
}
