package surd_test

import (
	"math/big"
	"math/rand/v2"
	"slices"
	"strings"

	"kingpost/api"
	"kingpost/rational"
)

// What the functions should return is found here by the definitions of the
// chapter, and of those of the layers below, with math/big.

func nines(n int) string          { return strings.Repeat("9", n) }
func sevens(n int) string         { return strings.Repeat("7", n) }
func tenTo(n int) string          { return "1" + strings.Repeat("0", n) }
func num(parts ...string) api.Num { return api.Num(strings.Join(parts, "")) }
func random(n uint) *rand.Rand    { return rand.New(rand.NewPCG(uint64(n), 40)) }

// of returns terms: Coef and Root in turn.
func of(l ...api.Num) api.Surd {
	var s api.Surd
	for i := 0; i+1 < len(l); i += 2 {
		s = append(s, api.Term{Coef: l[i], Root: l[i+1]})
	}
	return s
}

func parse(a api.Num) *big.Rat {
	r, ok := new(big.Rat).SetString(string(a))
	if !ok {
		panic("no number: " + string(a))
	}
	return r
}

func text(r *big.Rat) api.Num { return api.Num(r.RatString()) }

func whole(n int64) *big.Rat       { return big.NewRat(n, 1) }
func rat(n *big.Int) *big.Rat      { return new(big.Rat).SetInt(n) }
func plus(a, b *big.Rat) *big.Rat  { return new(big.Rat).Add(a, b) }
func minus(a, b *big.Rat) *big.Rat { return new(big.Rat).Sub(a, b) }
func times(a, b *big.Rat) *big.Rat { return new(big.Rat).Mul(a, b) }
func over(a, b *big.Rat) *big.Rat  { return new(big.Rat).Quo(a, b) }
func opposite(a *big.Rat) *big.Rat { return new(big.Rat).Neg(a) }
func power(n, k int64) *big.Int    { return new(big.Int).Exp(big.NewInt(n), big.NewInt(k), nil) }
func length(n *big.Int) int        { return len(new(big.Int).Abs(n).String()) }
func isWithin(n int, a api.Num) bool {
	r := parse(a)
	return length(r.Num()) <= n && length(r.Denom()) <= n
}

func isPrime(n int64) bool {
	for k := int64(2); k*k <= n; k++ {
		if n%k == 0 {
			return false
		}
	}
	return n > 1
}

// floor is the greatest integer that is at most a.
func floor(a *big.Rat) *big.Int {
	q, _ := new(big.Int).DivMod(a.Num(), a.Denom(), new(big.Int))
	return q
}

// exactRoot is the root of q, or nil if it is not rational.
func exactRoot(q *big.Rat) *big.Rat {
	r := new(big.Rat).SetFrac(new(big.Int).Sqrt(q.Num()), new(big.Int).Sqrt(q.Denom()))
	if times(r, r).Cmp(q) != 0 {
		return nil
	}
	return r
}

// normalForm returns c and n of the normal form of the root of q, which is
// positive.
func normalForm(q *big.Rat) (*big.Rat, *big.Int) {
	left := new(big.Int).Mul(q.Num(), q.Denom())
	for p := range int64(100) {
		for isPrime(p) {
			rest, remainder := new(big.Int).QuoRem(left, big.NewInt(p*p), new(big.Int))
			if remainder.Sign() != 0 {
				break
			}
			left = rest
		}
	}
	if exactRoot(rat(left)) != nil {
		left = big.NewInt(1)
	}
	return exactRoot(over(q, rat(left))), left
}

// product is that of layer 2: nil if an integer on the way is too long.
func product(a, b *big.Rat) *big.Rat {
	n, d := new(big.Int).Mul(a.Num(), b.Num()), new(big.Int).Mul(a.Denom(), b.Denom())
	if length(n) > api.MaxDigits || length(d) > api.MaxDigits {
		return nil
	}
	return new(big.Rat).SetFrac(n, d)
}

// sum is that of layer 2: nil if an integer on the way is too long.
func sum(a, b *big.Rat) *big.Rat {
	x, y := new(big.Int).Mul(a.Num(), b.Denom()), new(big.Int).Mul(b.Num(), a.Denom())
	n, d := new(big.Int).Add(x, y), new(big.Int).Mul(a.Denom(), b.Denom())
	if max(length(x), length(y), length(n), length(d)) > api.MaxDigits {
		return nil
	}
	return new(big.Rat).SetFrac(n, d)
}

// group is the sum of the terms whose roots have rational ratios.
type group struct {
	coef *big.Rat
	root *big.Int
}

// madeOf is what Make should return.
func madeOf(l []api.Term) (api.Surd, api.Errno) {
	if len(l) > 256 {
		return nil, api.ErrLimit
	}
	for _, t := range l {
		if e := first(rational.Check(t.Coef), rational.Check(t.Root)); e != api.OK {
			return nil, e
		}
		if parse(t.Root).Sign() < 0 {
			return nil, api.ErrRange
		}
	}
	var groups []group
	for _, t := range l {
		if t.Coef == "0" || t.Root == "0" {
			continue
		}
		if !isWithin(90, t.Root) {
			return nil, api.ErrLimit
		}
		c, n := normalForm(parse(t.Root))
		coef := product(parse(t.Coef), c)
		if coef == nil || length(n) > 90 {
			return nil, api.ErrLimit
		}
		var ok bool
		if groups, ok = join(groups, group{coef, n}); !ok {
			return nil, api.ErrLimit
		}
	}
	return listed(groups)
}

// join adds a term to the groups; or returns false if a number is too long.
func join(groups []group, g group) ([]group, bool) {
	for i, h := range groups {
		if exactRoot(new(big.Rat).SetFrac(g.root, h.root)) == nil {
			continue
		}
		if g.root.Cmp(h.root) < 0 {
			g, h = h, g
		}
		converted := product(g.coef, exactRoot(new(big.Rat).SetFrac(g.root, h.root)))
		if converted == nil {
			return nil, false
		}
		groups[i] = group{sum(h.coef, converted), h.root}
		return groups, groups[i].coef != nil
	}
	return append(groups, g), true
}

// listed is the surd of groups, if it is within the limits.
func listed(groups []group) (api.Surd, api.Errno) {
	var s api.Surd
	slices.SortFunc(groups, func(g, h group) int { return g.root.Cmp(h.root) })
	for _, g := range groups {
		if g.coef.Sign() != 0 {
			s = append(s, api.Term{Coef: text(g.coef), Root: api.Num(g.root.String())})
		}
	}
	for _, t := range s {
		if !isWithin(60, t.Coef) || !isWithin(40, t.Root) {
			return nil, api.ErrLimit
		}
	}
	if len(s) > 16 {
		return nil, api.ErrLimit
	}
	return s, api.OK
}

// check is what Check should return.
func check(s api.Surd) api.Errno {
	if len(s) > 16 {
		return api.ErrLimit
	}
	for i, t := range s {
		if e := first(rational.Check(t.Coef), rational.Check(t.Root)); e != api.OK {
			return e
		}
		if t.Coef == "0" {
			return api.ErrZero
		}
		if !isWithin(60, t.Coef) || !isWithin(40, t.Root) {
			return api.ErrLimit
		}
		r := parse(t.Root)
		if !r.IsInt() || r.Sign() <= 0 {
			return api.ErrKind
		}
		if c, _ := normalForm(r); c.Cmp(whole(1)) != 0 {
			return api.ErrKind
		}
		if i > 0 && r.Cmp(parse(s[i-1].Root)) <= 0 {
			return api.ErrOrder
		}
		for _, u := range s[:i] {
			if exactRoot(over(r, parse(u.Root))) != nil {
				return api.ErrExists
			}
		}
	}
	return api.OK
}

// roundedDown is the value of a term times 10^64, rounded down: the greatest
// integer whose square, with its sign, is at most that of the value.
func roundedDown(t api.Term) *big.Int {
	coef := parse(t.Coef)
	square := times(times(times(coef, coef), parse(t.Root)), rat(power(10, 128)))
	r := new(big.Int).Sqrt(floor(square))
	if coef.Sign() >= 0 {
		return r
	}
	if times(rat(r), rat(r)).Cmp(square) < 0 {
		r.Add(r, big.NewInt(1))
	}
	return r.Neg(r)
}

// total is the sum of the terms of s, each times 10^64 and rounded down.
func total(s api.Surd) *big.Int {
	out := new(big.Int)
	for _, t := range s {
		out.Add(out, roundedDown(t))
	}
	return out
}

// sign is what Sign should return for a surd.
func sign(s api.Surd) (int, api.Errno) {
	low := total(s)
	high := new(big.Int).Add(low, big.NewInt(int64(len(s))))
	switch {
	case len(s) == 0:
		return 0, api.OK
	case low.Sign() > 0:
		return 1, api.OK
	case high.Sign() <= 0:
		return -1, api.OK
	}
	return 0, api.ErrLimit
}

// value is the value of terms, to more than 500 digits.
func value(l []api.Term) *big.Float {
	const bits = 1800
	out := new(big.Float).SetPrec(bits)
	for _, t := range l {
		r := new(big.Float).SetPrec(bits).SetRat(parse(t.Root))
		c := new(big.Float).SetPrec(bits).SetRat(parse(t.Coef))
		out.Add(out, c.Mul(c, r.Sqrt(r)))
	}
	return out
}

// isNear tells if numbers agree to 10^-200, which is less than what different
// sums in the tests are apart.
func isNear(a, b *big.Float) bool {
	d := new(big.Float).Sub(a, b)
	return d.Abs(d).Cmp(new(big.Float).SetRat(parse(num("1/", tenTo(200))))) < 0
}

// simplest is a fraction with a least denominator between two positive
// numbers.
func simplest(low, high *big.Rat) *big.Rat {
	below := rat(floor(low))
	if next := plus(below, whole(1)); next.Cmp(high) < 0 {
		return next
	}
	if below.Cmp(low) == 0 {
		half := simplest(over(whole(1), minus(high, below)), plus(over(whole(1), minus(high, below)), whole(2)))
		return plus(below, over(whole(1), half))
	}
	inner := simplest(over(whole(1), minus(high, below)), over(whole(1), minus(low, below)))
	return plus(below, over(whole(1), inner))
}

// first is the first one of errors.
func first(errors ...api.Errno) api.Errno {
	for _, e := range errors {
		if e != api.OK {
			return e
		}
	}
	return api.OK
}
