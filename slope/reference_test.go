package slope_test

import (
	"math/big"
	"math/rand/v2"
	"slices"
	"strings"

	"kingpost/api"
	"kingpost/rational"
	"kingpost/slope"
	"kingpost/surd"
)

// What the functions should return is found here by the definitions of the
// chapter, and of those of the layers below, with math/big; of the layers below
// only the errors of Check are asked.

func nines(n int) string          { return strings.Repeat("9", n) }
func tenTo(n int) string          { return "1" + strings.Repeat("0", n) }
func num(parts ...string) api.Num { return api.Num(strings.Join(parts, "")) }
func random(n uint) *rand.Rand    { return rand.New(rand.NewPCG(uint64(n), 80)) }

// of returns terms: Coef and Root in turn.
func of(l ...api.Num) api.Surd {
	var s api.Surd
	for i := 0; i+1 < len(l); i += 2 {
		s = append(s, api.Term{Coef: l[i], Root: l[i+1]})
	}
	return s
}

func parse(a api.Num) *big.Rat {
	r, ok := new(big.Rat).SetString(string(a))
	if !ok {
		panic("no number: " + string(a))
	}
	return r
}

func text(r *big.Rat) api.Num { return api.Num(r.RatString()) }

func whole(n int64) *big.Rat       { return big.NewRat(n, 1) }
func rat(n *big.Int) *big.Rat      { return new(big.Rat).SetInt(n) }
func plus(a, b *big.Rat) *big.Rat  { return new(big.Rat).Add(a, b) }
func times(a, b *big.Rat) *big.Rat { return new(big.Rat).Mul(a, b) }
func over(a, b *big.Rat) *big.Rat  { return new(big.Rat).Quo(a, b) }
func length(n *big.Int) int        { return len(new(big.Int).Abs(n).String()) }

func isWithin(n int, r *big.Rat) bool {
	return length(r.Num()) <= n && length(r.Denom()) <= n
}

// first is the first one of errors.
func first(errors ...api.Errno) api.Errno {
	for _, e := range errors {
		if e != api.OK {
			return e
		}
	}
	return api.OK
}

// Numbers with layer 2's limit: nil is one for which an integer on the way is
// too long, and what is computed with nil is nil.

func fraction(n, d *big.Int, more ...*big.Int) *big.Rat {
	for _, part := range append(more, n, d) {
		if length(part) > api.MaxDigits {
			return nil
		}
	}
	return new(big.Rat).SetFrac(n, d)
}

func product(a, b *big.Rat) *big.Rat {
	if a == nil || b == nil {
		return nil
	}
	return fraction(new(big.Int).Mul(a.Num(), b.Num()), new(big.Int).Mul(a.Denom(), b.Denom()))
}

func quotient(a, b *big.Rat) *big.Rat {
	if a == nil || b == nil {
		return nil
	}
	return fraction(new(big.Int).Mul(a.Num(), b.Denom()), new(big.Int).Mul(a.Denom(), b.Num()))
}

func sum(a, b *big.Rat) *big.Rat {
	if a == nil || b == nil {
		return nil
	}
	x, y := new(big.Int).Mul(a.Num(), b.Denom()), new(big.Int).Mul(b.Num(), a.Denom())
	return fraction(new(big.Int).Add(x, y), new(big.Int).Mul(a.Denom(), b.Denom()), x, y)
}

func square(a *big.Rat) *big.Rat        { return product(a, a) }
func inverse(a *big.Rat) *big.Rat       { return quotient(whole(1), a) }
func squareAndOne(a *big.Rat) *big.Rat  { return sum(whole(1), square(a)) }
func inverseSquare(a *big.Rat) *big.Rat { return inverse(square(a)) }

// exactRoot is the root of q, or nil if it is not rational.
func exactRoot(q *big.Rat) *big.Rat {
	r := new(big.Rat).SetFrac(new(big.Int).Sqrt(q.Num()), new(big.Int).Sqrt(q.Denom()))
	if times(r, r).Cmp(q) != 0 {
		return nil
	}
	return r
}

// normalForm returns c and n of the normal form of the root of q, which is
// positive.
func normalForm(q *big.Rat) (*big.Rat, *big.Int) {
	left := new(big.Int).Mul(q.Num(), q.Denom())
	for p := range int64(100) {
		for big.NewInt(p).ProbablyPrime(10) {
			rest, remainder := new(big.Int).QuoRem(left, big.NewInt(p*p), new(big.Int))
			if remainder.Sign() != 0 {
				break
			}
			left = rest
		}
	}
	if exactRoot(rat(left)) != nil {
		left = big.NewInt(1)
	}
	return exactRoot(over(q, rat(left))), left
}

// rootOf is the surd that is made of a single term with the Coef 1.
func rootOf(q *big.Rat) (api.Surd, api.Errno) {
	if q == nil || !isWithin(90, q) {
		return nil, api.ErrLimit
	}
	c, n := normalForm(q)
	return term(c, n)
}

// term is the surd of a term, whose Root is normal.
func term(c *big.Rat, n *big.Int) (api.Surd, api.Errno) {
	if !isWithin(60, c) || length(n) > 40 {
		return nil, api.ErrLimit
	}
	return of(text(c), api.Num(n.String())), api.OK
}

// A line function is one that has a surd for two pitches, with the number under
// its root.
type lineFunction struct {
	name  string
	call  func(p, q api.Num) (api.Surd, api.Errno)
	under func(p, q *big.Rat) *big.Rat
}

func lineFunctions() []lineFunction {
	return []lineFunction{
		{"Hip", slope.Hip, func(p, q *big.Rat) *big.Rat { return inverse(sum(inverseSquare(p), inverseSquare(q))) }},
		{"Length", slope.Length, func(p, q *big.Rat) *big.Rat { return sum(sum(whole(1), inverseSquare(p)), inverseSquare(q)) }},
		{"Dihedral", slope.Dihedral, func(p, q *big.Rat) *big.Rat { return inverse(product(squareAndOne(p), squareAndOne(q))) }},
	}
}

// positive is the error of a pitch by itself.
func positive(p api.Num) api.Errno {
	if e := rational.Check(p); e != api.OK {
		return e
	}
	if parse(p).Sign() <= 0 {
		return api.ErrRange
	}
	return api.OK
}

// line is what a line function should return.
func (f lineFunction) line(p, q api.Num) (api.Surd, api.Errno) {
	if e := first(positive(p), positive(q)); e != api.OK {
		return nil, e
	}
	return rootOf(f.under(parse(p), parse(q)))
}

// factor is what Factor should return.
func factor(p api.Num) (api.Surd, api.Errno) {
	if e := positive(p); e != api.OK {
		return nil, e
	}
	return rootOf(squareAndOne(parse(p)))
}

// tangent is what Plan should return.
func tangent(p, q api.Num) (api.Num, api.Errno) {
	if e := first(positive(p), positive(q)); e != api.OK {
		return "", e
	}
	r := quotient(parse(q), parse(p))
	if r == nil {
		return "", api.ErrLimit
	}
	return text(r), api.OK
}

// inverted is what Inverse should return.
func inverted(t api.Surd) (api.Surd, api.Errno) {
	if surd.Check(t) != api.OK {
		return nil, api.ErrArgument
	}
	if len(t) == 0 {
		return nil, api.ErrZero
	}
	if len(t) > 1 {
		return nil, api.ErrKind
	}
	root := parse(t[0].Root)
	return term(over(whole(1), times(parse(t[0].Coef), root)), root.Num())
}

// isPart tells if a rise or a run is right.
func isPart(n int) bool { return n >= 1 && n <= 48 }

// check is what Check should return.
func check(rise, run int) api.Errno {
	if isPart(rise) && isPart(run) {
		return api.OK
	}
	return api.ErrRange
}

// order is what Compare should return.
func order(rise, run, rise2, run2 int) (int, api.Errno) {
	if e := first(check(rise, run), check(rise2, run2)); e != api.OK {
		return 0, e
	}
	return big.NewRat(int64(rise), int64(run)).Cmp(big.NewRat(int64(rise2), int64(run2))), api.OK
}

// areSame tells if two results are: with an error the surd is empty.
func areSame(s api.Surd, e api.Errno, t api.Surd, f api.Errno) bool {
	return e == f && slices.Equal(s, t) && (e == api.OK || len(s) == 0)
}
