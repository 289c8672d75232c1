package rounding_test

import (
	"math/big"
	"math/rand/v2"
	"strings"

	"kingpost/api"
	"kingpost/enclosure"
	"kingpost/rational"
	"kingpost/surd"
)

// What the functions should return is found here by the definitions of the
// chapter with math/big; of the layers below, only the errors are asked.

func nines(n int) string          { return strings.Repeat("9", n) }
func sevens(n int) string         { return strings.Repeat("7", n) }
func tenTo(n int) string          { return "1" + strings.Repeat("0", n) }
func num(parts ...string) api.Num { return api.Num(strings.Join(parts, "")) }
func random(n uint) *rand.Rand    { return rand.New(rand.NewPCG(uint64(n), 60)) }

// of returns terms: Coef and Root in turn.
func of(l ...api.Num) api.Surd {
	var s api.Surd
	for i := 0; i+1 < len(l); i += 2 {
		s = append(s, api.Term{Coef: l[i], Root: l[i+1]})
	}
	return s
}

func parse(a api.Num) *big.Rat {
	r, ok := new(big.Rat).SetString(string(a))
	if !ok {
		panic("no number: " + string(a))
	}
	return r
}

func text(r *big.Rat) api.Num { return api.Num(r.RatString()) }

func whole(n int64) *big.Rat       { return big.NewRat(n, 1) }
func half() *big.Rat               { return big.NewRat(1, 2) }
func rat(n *big.Int) *big.Rat      { return new(big.Rat).SetInt(n) }
func plus(a, b *big.Rat) *big.Rat  { return new(big.Rat).Add(a, b) }
func minus(a, b *big.Rat) *big.Rat { return new(big.Rat).Sub(a, b) }
func times(a, b *big.Rat) *big.Rat { return new(big.Rat).Mul(a, b) }
func over(a, b *big.Rat) *big.Rat  { return new(big.Rat).Quo(a, b) }
func length(n *big.Int) int        { return len(new(big.Int).Abs(n).String()) }

// sum, difference, and so on of numbers, of which each one is right.
func sum(a, b api.Num) api.Num        { return text(plus(parse(a), parse(b))) }
func difference(a, b api.Num) api.Num { return text(minus(parse(a), parse(b))) }
func product(a, b api.Num) api.Num    { return text(times(parse(a), parse(b))) }
func quotient(a, b api.Num) api.Num   { return text(over(parse(a), parse(b))) }
func integer(n int64) api.Num         { return text(whole(n)) }

// floor is the greatest integer that is at most a.
func floor(a *big.Rat) *big.Int {
	q, _ := new(big.Int).DivMod(a.Num(), a.Denom(), new(big.Int))
	return q
}

// ceiling is the least integer that is at least a.
func ceiling(a *big.Rat) *big.Int {
	n := floor(new(big.Rat).Neg(a))
	return n.Neg(n)
}

// value is the value of terms, to more than 500 digits; that of a rational
// surd is exact.
func value(s api.Surd) *big.Rat {
	if len(s) == 1 && s[0].Root == "1" {
		return parse(s[0].Coef)
	}
	const bits = 2000
	out := new(big.Float).SetPrec(bits)
	for _, t := range s {
		r := new(big.Float).SetPrec(bits).SetRat(parse(t.Root))
		c := new(big.Float).SetPrec(bits).SetRat(parse(t.Coef))
		out.Add(out, c.Mul(c, r.Sqrt(r)))
	}
	r, _ := out.Rat(nil)
	return r
}

// exact is the surd whose value is a: too long a one is no surd.
func exact(a api.Num) api.Surd {
	if a == "0" {
		return nil
	}
	return of(a, "1")
}

// made returns the surd that a function should have returned.
func made(s api.Surd, e api.Errno) api.Surd {
	if e != api.OK {
		panic("no surd")
	}
	return s
}

func scaled(s api.Surd, c api.Num) api.Surd { return made(surd.Scale(s, c)) }
func moved(s api.Surd, c api.Num) api.Surd  { return made(surd.Add(s, exact(c))) }

// first is the first one of errors.
func first(errors ...api.Errno) api.Errno {
	for _, e := range errors {
		if e != api.OK {
			return e
		}
	}
	return api.OK
}

// checked is the first error of a surd and numbers by themselves.
func checked(s api.Surd, numbers ...api.Num) api.Errno {
	if surd.Check(s) != api.OK {
		return api.ErrArgument
	}
	for _, a := range numbers {
		if rational.Check(a) != api.OK {
			return api.ErrArgument
		}
	}
	return api.OK
}

// counted returns the integer that rounded makes of s and some more in units.
func counted(s api.Surd, unit api.Num, more *big.Rat, rounded func(*big.Rat) *big.Int) (*big.Int, api.Errno) {
	if e := checked(s, unit); e != api.OK {
		return nil, e
	}
	if parse(unit).Sign() <= 0 {
		return nil, api.ErrRange
	}
	units, e := surd.Scale(s, quotient("1", unit))
	if e != api.OK {
		return nil, e
	}
	if units, e = surd.Add(units, exact(text(more))); e != api.OK {
		return nil, e
	}
	if _, e = enclosure.Of(units, 0); e != api.OK {
		return nil, e
	}
	return rounded(plus(over(value(s), parse(unit)), more)), api.OK
}

// multiple returns so many units as counted does.
func multiple(s api.Surd, unit api.Num, more *big.Rat, rounded func(*big.Rat) *big.Int) (api.Num, api.Errno) {
	n, e := counted(s, unit, more, rounded)
	if e != api.OK {
		return "", e
	}
	if length(new(big.Int).Mul(n, parse(unit).Num())) > api.MaxDigits {
		return "", api.ErrLimit
	}
	return text(times(rat(n), parse(unit))), api.OK
}

// outcome is what the four functions return that round, with their errors.
type outcome struct {
	down, up, near api.Num
	steps          int
	errors         [4]api.Errno
}

// expected is what the functions should return.
func expected(s api.Surd, unit api.Num) outcome {
	var o outcome
	o.down, o.errors[0] = multiple(s, unit, whole(0), floor)
	o.up, o.errors[1] = multiple(s, unit, whole(0), ceiling)
	o.near, o.errors[2] = multiple(s, unit, half(), floor)
	n, e := counted(s, unit, whole(0), ceiling)
	most := big.NewInt(1 << 62)
	switch {
	case e != api.OK:
		o.errors[3] = e
	case n.CmpAbs(most) > 0:
		o.errors[3] = api.ErrRange
	default:
		o.steps = int(n.Int64())
	}
	return o
}

// combined returns the sum or the difference of numbers as layer 2 does: nil and
// ErrLimit if something on the way is too long.
func combined(a, b api.Num, operation func(x, y *big.Int) *big.Int) (*big.Rat, api.Errno) {
	p, q := parse(a), parse(b)
	x, y := new(big.Int).Mul(p.Num(), q.Denom()), new(big.Int).Mul(q.Num(), p.Denom())
	n, d := operation(x, y), new(big.Int).Mul(p.Denom(), q.Denom())
	if max(length(x), length(y), length(n), length(d)) > api.MaxDigits {
		return nil, api.ErrLimit
	}
	return new(big.Rat).SetFrac(n, d), api.OK
}

func added(x, y *big.Int) *big.Int { return new(big.Int).Add(x, y) }
func taken(x, y *big.Int) *big.Int { return new(big.Int).Sub(x, y) }

// isWithin is what Within should return: the errors of comparing s with both
// ends are those of layer 4.
func isWithin(s api.Surd, r, e api.Num) (bool, api.Errno) {
	if f := checked(s, r, e); f != api.OK {
		return false, f
	}
	if parse(e).Sign() < 0 {
		return false, api.ErrRange
	}
	low, f := combined(r, e, taken)
	high, g := combined(r, e, added)
	if f := first(f, g); f != api.OK {
		return false, f
	}
	for _, end := range [2]*big.Rat{low, high} {
		if max(length(end.Num()), length(end.Denom())) > 60 {
			return false, api.ErrLimit
		}
		if _, f := surd.Compare(s, exact(text(end))); f != api.OK {
			return false, f
		}
	}
	return value(s).Cmp(low) >= 0 && value(s).Cmp(high) <= 0, api.OK
}

// shared returns the shares of a total by weights that are all right, one after
// the other of what is left being given.
func shared(total int, weights []int) []int {
	sum := int64(0)
	for _, w := range weights {
		sum += int64(w)
	}
	shares, remainders, left := make([]int, len(weights)), make([]int64, len(weights)), total
	for i, w := range weights {
		q, r := new(big.Int).QuoRem(big.NewInt(int64(total)*int64(w)), big.NewInt(sum), new(big.Int))
		shares[i], remainders[i] = int(q.Int64()), r.Int64()
		left -= shares[i]
	}
	for ; left > 0; left-- {
		best := 0
		for i, r := range remainders {
			if r > remainders[best] {
				best = i
			}
		}
		shares[best]++
		remainders[best] = -1
	}
	return shares
}

// simplest is a fraction with a least denominator between two positive
// numbers.
func simplest(low, high *big.Rat) *big.Rat {
	below := rat(floor(low))
	if next := plus(below, whole(1)); next.Cmp(high) < 0 {
		return next
	}
	if below.Cmp(low) == 0 {
		return plus(below, over(whole(1), plus(over(whole(1), minus(high, below)), whole(1))))
	}
	inner := simplest(over(whole(1), minus(high, below)), over(whole(1), minus(low, below)))
	return plus(below, over(whole(1), inner))
}
