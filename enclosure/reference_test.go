package enclosure_test

import (
	"math/big"
	"math/rand/v2"
	"strings"

	"kingpost/api"
	"kingpost/rational"
	"kingpost/surd"
)

// What the functions should return is found here by the definitions of the
// chapter, and of those of the layers below, with math/big.

func nines(n int) string          { return strings.Repeat("9", n) }
func sevens(n int) string         { return strings.Repeat("7", n) }
func tenTo(n int) string          { return "1" + strings.Repeat("0", n) }
func num(parts ...string) api.Num { return api.Num(strings.Join(parts, "")) }
func random(n uint) *rand.Rand    { return rand.New(rand.NewPCG(uint64(n), 50)) }

// of returns terms: Coef and Root in turn.
func of(l ...api.Num) api.Surd {
	var s api.Surd
	for i := 0; i+1 < len(l); i += 2 {
		s = append(s, api.Term{Coef: l[i], Root: l[i+1]})
	}
	return s
}

func between(low, high api.Num) api.Range { return api.Range{Low: low, High: high} }

func parse(a api.Num) *big.Rat {
	r, ok := new(big.Rat).SetString(string(a))
	if !ok {
		panic("no number: " + string(a))
	}
	return r
}

func text(r *big.Rat) api.Num { return api.Num(r.RatString()) }

func whole(n int64) *big.Rat       { return big.NewRat(n, 1) }
func rat(n *big.Int) *big.Rat      { return new(big.Rat).SetInt(n) }
func plus(a, b *big.Rat) *big.Rat  { return new(big.Rat).Add(a, b) }
func minus(a, b *big.Rat) *big.Rat { return new(big.Rat).Sub(a, b) }
func times(a, b *big.Rat) *big.Rat { return new(big.Rat).Mul(a, b) }
func over(a, b *big.Rat) *big.Rat  { return new(big.Rat).Quo(a, b) }
func length(n *big.Int) int        { return len(new(big.Int).Abs(n).String()) }

// isWithin tells if numerator and denominator have at most n digits.
func isWithin(n int, a api.Num) bool {
	r := parse(a)
	return length(r.Num()) <= n && length(r.Denom()) <= n
}

// unit is 10^-n.
func unit(n int) *big.Rat {
	return new(big.Rat).SetFrac(big.NewInt(1), new(big.Int).Exp(big.NewInt(10), big.NewInt(int64(n)), nil))
}

// floor is the greatest integer that is at most a.
func floor(a *big.Rat) *big.Int {
	q, _ := new(big.Int).DivMod(a.Num(), a.Denom(), new(big.Int))
	return q
}

// crossed returns the products of each numerator with the other denominator.
func crossed(a, b *big.Rat) (*big.Int, *big.Int) {
	return new(big.Int).Mul(a.Num(), b.Denom()), new(big.Int).Mul(b.Num(), a.Denom())
}

// fraction is the number with these parts, and true, if layer 2 reaches it:
// neither they, nor what else it needs, are too long.
func fraction(n, d *big.Int, others ...*big.Int) (api.Num, bool) {
	for _, x := range append(others, n, d) {
		if length(x) > api.MaxDigits {
			return "", false
		}
	}
	return text(new(big.Rat).SetFrac(n, d)), true
}

func sum(a, b api.Num) (api.Num, bool) {
	p, q := parse(a), parse(b)
	x, y := crossed(p, q)
	return fraction(new(big.Int).Add(x, y), new(big.Int).Mul(p.Denom(), q.Denom()), x, y)
}

func difference(a, b api.Num) (api.Num, bool) {
	return sum(a, text(new(big.Rat).Neg(parse(b))))
}

func product(a, b api.Num) (api.Num, bool) {
	p, q := parse(a), parse(b)
	return fraction(new(big.Int).Mul(p.Num(), q.Num()), new(big.Int).Mul(p.Denom(), q.Denom()))
}

// order is -1, 0 or 1, as a is less than, equal to, or greater than b.
func order(a, b api.Num) (int, bool) {
	x, y := crossed(parse(a), parse(b))
	return x.Cmp(y), max(length(x), length(y)) <= api.MaxDigits
}

// check is what Check should return.
func check(r api.Range) api.Errno {
	if e := first(rational.Check(r.Low), rational.Check(r.High)); e != api.OK {
		return e
	}
	n, ok := order(r.Low, r.High)
	switch {
	case !ok:
		return api.ErrLimit
	case n > 0:
		return api.ErrOrder
	}
	return api.OK
}

// limited is a range, or none and ErrLimit if it is not reached.
func limited(r api.Range, ok bool) (api.Range, api.Errno) {
	if !ok {
		return api.Range{}, api.ErrLimit
	}
	return r, api.OK
}

// sumOf is what Add should return for ranges.
func sumOf(a, b api.Range) (api.Range, api.Errno) {
	low, ok := sum(a.Low, b.Low)
	high, isHigh := sum(a.High, b.High)
	return limited(between(low, high), ok && isHigh)
}

// productOf is what Mul should return for ranges.
func productOf(a, b api.Range) (api.Range, api.Errno) {
	r, all := api.Range{}, true
	for i, x := range [4][2]api.Num{{a.Low, b.Low}, {a.Low, b.High}, {a.High, b.Low}, {a.High, b.High}} {
		p, ok := product(x[0], x[1])
		if !ok {
			return limited(r, false)
		}
		if i == 0 {
			r = between(p, p)
		}
		low, isLow := order(p, r.Low)
		high, isHigh := order(p, r.High)
		if low < 0 {
			r.Low = p
		}
		if high > 0 {
			r.High = p
		}
		all = all && (i == 0 || isLow && isHigh)
	}
	return limited(r, all)
}

// commonOf is what Meet should return for ranges.
func commonOf(a, b api.Range) (api.Range, bool, api.Errno) {
	lows, isLow := order(a.Low, b.Low)
	highs, isHigh := order(a.High, b.High)
	if lows < 0 {
		a.Low = b.Low
	}
	if highs > 0 {
		a.High = b.High
	}
	n, ok := order(a.Low, a.High)
	r, e := limited(a, ok && isLow && isHigh)
	if e != api.OK || n > 0 {
		return api.Range{}, false, e
	}
	return r, true, api.OK
}

// rootOf is what Root should return for a range that is not negative.
func rootOf(a api.Range, places int) (api.Range, api.Errno) {
	var ends [2]api.Num
	for i, q := range [2]api.Num{a.Low, a.High} {
		square := over(parse(q), times(unit(places), unit(places)))
		n := new(big.Int).Sqrt(floor(square))
		if i == 1 && rat(new(big.Int).Mul(n, n)).Cmp(square) < 0 {
			n.Add(n, big.NewInt(1))
		}
		ends[i] = text(times(rat(n), unit(places)))
	}
	return limited(between(ends[0], ends[1]), isWithin(90, a.Low) && isWithin(90, a.High))
}

// checkSurd returns the first error of surds that are enclosed.
func checkSurd(l ...api.Surd) api.Errno {
	for _, s := range l {
		if surd.Check(s) != api.OK {
			return api.ErrArgument
		}
	}
	for _, s := range l {
		for _, t := range s {
			if !isWithin(20, t.Coef) {
				return api.ErrLimit
			}
		}
	}
	return api.OK
}

// value is the value of terms, to more than 500 digits; that of a rational
// surd is exact.
func value(s api.Surd) *big.Rat {
	if len(s) == 1 && s[0].Root == "1" {
		return parse(s[0].Coef)
	}
	const bits = 2000
	out := new(big.Float).SetPrec(bits)
	for _, t := range s {
		r := new(big.Float).SetPrec(bits).SetRat(parse(t.Root))
		c := new(big.Float).SetPrec(bits).SetRat(parse(t.Coef))
		out.Add(out, c.Mul(c, r.Sqrt(r)))
	}
	r, _ := out.Rat(nil)
	return r
}

// exact is the surd whose value is a: too long a one is no surd.
func exact(a api.Num) api.Surd {
	if a == "0" {
		return nil
	}
	return of(a, "1")
}

// decimals are the greatest decimal that is at most s, and the least one that
// is at least s.
func decimals(s api.Surd, places int) api.Range {
	inUnits := over(value(s), unit(places))
	low, high := floor(inUnits), floor(inUnits)
	if !inUnits.IsInt() {
		high = new(big.Int).Add(low, big.NewInt(1))
	}
	return between(text(times(rat(low), unit(places))), text(times(rat(high), unit(places))))
}

// enclosed is what Of should return.
func enclosed(s api.Surd, places int) (api.Range, api.Errno) {
	if e := checkSurd(s); e != api.OK {
		return api.Range{}, e
	}
	if places < 0 || places > 40 {
		return api.Range{}, api.ErrRange
	}
	r := decimals(s, places)
	_, e := surd.Compare(exact(r.Low), s)
	_, f := surd.Compare(exact(r.High), s)
	return limited(r, e == api.OK && f == api.OK)
}

// separated is what Separate should return.
func separated(s, t api.Surd) (int, api.Errno) {
	if e := checkSurd(s, t); e != api.OK {
		return 0, e
	}
	n, e := surd.Compare(s, t)
	if e != api.OK {
		return 0, api.ErrLimit
	}
	if n == 0 {
		return 0, api.ErrExists
	}
	for places := 0; places <= 40; places++ {
		a, e := enclosed(s, places)
		b, f := enclosed(t, places)
		if e := first(e, f); e != api.OK {
			return 0, e
		}
		if parse(a.High).Cmp(parse(b.Low)) < 0 || parse(b.High).Cmp(parse(a.Low)) < 0 {
			return places, api.OK
		}
	}
	return 0, api.ErrLimit
}

// first is the first one of errors.
func first(errors ...api.Errno) api.Errno {
	for _, e := range errors {
		if e != api.OK {
			return e
		}
	}
	return api.OK
}

// simplest is a fraction with a least denominator between two positive
// numbers.
func simplest(low, high *big.Rat) *big.Rat {
	below := rat(floor(low))
	if next := plus(below, whole(1)); next.Cmp(high) < 0 {
		return next
	}
	if below.Cmp(low) == 0 {
		half := plus(over(whole(1), minus(high, below)), whole(1))
		return plus(below, over(whole(1), half))
	}
	inner := simplest(over(whole(1), minus(high, below)), over(whole(1), minus(low, below)))
	return plus(below, over(whole(1), inner))
}
