package vector_test

import (
	"fmt"
	"math/big"
	"math/rand/v2"
	"slices"
	"strings"

	"kingpost/api"
	"kingpost/rational"
	"kingpost/root"
	"kingpost/vector"
)

// What the functions should return is found here by the definitions of the
// chapter, and of those of the layers below, with math/big; of the layers below
// only the errors of Check and normal forms of roots are asked.

func nines(n int) string          { return strings.Repeat("9", n) }
func tenTo(n int) string          { return "1" + strings.Repeat("0", n) }
func num(parts ...string) api.Num { return api.Num(strings.Join(parts, "")) }
func random(n uint) *rand.Rand    { return rand.New(rand.NewPCG(uint64(n), 90)) }

// spot returns the vector with these coordinates.
func spot(x, y, z api.Num) api.Spot { return api.Spot{X: x, Y: y, Z: z} }

// term returns the surd of one term.
func term(c, n api.Num) api.Surd { return api.Surd{{Coef: c, Root: n}} }

func text(r *big.Rat) api.Num      { return api.Num(r.RatString()) }
func length(n *big.Int) int        { return len(new(big.Int).Abs(n).String()) }
func negative(a *big.Rat) *big.Rat { return new(big.Rat).Neg(a) }

func isWithin(n int, r *big.Rat) bool {
	return length(r.Num()) <= n && length(r.Denom()) <= n
}

// coordinates returns the values of the coordinates.
func coordinates(a api.Spot) [3]*big.Rat {
	var out [3]*big.Rat
	for i, s := range []api.Num{a.X, a.Y, a.Z} {
		out[i] = value(s)
	}
	return out
}

func value(a api.Num) *big.Rat {
	r, ok := new(big.Rat).SetString(string(a))
	if !ok {
		panic("no number: " + string(a))
	}
	return r
}

// Numbers with layer 2's limit: nil is one for which an integer on the way is
// too long, and what is computed with nil is nil.

func fraction(n, d *big.Int, more ...*big.Int) *big.Rat {
	for _, part := range append(more, n, d) {
		if length(part) > api.MaxDigits {
			return nil
		}
	}
	return new(big.Rat).SetFrac(n, d)
}

func product(a, b *big.Rat) *big.Rat {
	if a == nil || b == nil {
		return nil
	}
	return fraction(new(big.Int).Mul(a.Num(), b.Num()), new(big.Int).Mul(a.Denom(), b.Denom()))
}

func sum(a, b *big.Rat) *big.Rat {
	if a == nil || b == nil {
		return nil
	}
	x, y := new(big.Int).Mul(a.Num(), b.Denom()), new(big.Int).Mul(b.Num(), a.Denom())
	return fraction(new(big.Int).Add(x, y), new(big.Int).Mul(a.Denom(), b.Denom()), x, y)
}

func difference(a, b *big.Rat) *big.Rat {
	if b == nil {
		return nil
	}
	return sum(a, negative(b))
}

// order is -1, 0 or 1, or ErrLimit.
func order(a, b *big.Rat) (int, api.Errno) {
	x, y := new(big.Int).Mul(a.Num(), b.Denom()), new(big.Int).Mul(b.Num(), a.Denom())
	if max(length(x), length(y)) > api.MaxDigits {
		return 0, api.ErrLimit
	}
	return x.Cmp(y), api.OK
}

// spotOf is the vector of coordinates, or ErrLimit if one of them is nil.
func spotOf(x, y, z *big.Rat) (api.Spot, api.Errno) {
	if x == nil || y == nil || z == nil {
		return api.Spot{}, api.ErrLimit
	}
	return spot(text(x), text(y), text(z)), api.OK
}

// Functions of the values of two vectors that are right.

func combined(with func(a, b *big.Rat) *big.Rat) func(a, b [3]*big.Rat) (api.Spot, api.Errno) {
	return func(a, b [3]*big.Rat) (api.Spot, api.Errno) {
		return spotOf(with(a[0], b[0]), with(a[1], b[1]), with(a[2], b[2]))
	}
}

func scalar(a, b [3]*big.Rat) *big.Rat {
	return sum(sum(product(a[0], b[0]), product(a[1], b[1])), product(a[2], b[2]))
}

func dot(a, b [3]*big.Rat) (api.Num, api.Errno) {
	r := scalar(a, b)
	if r == nil {
		return "", api.ErrLimit
	}
	return text(r), api.OK
}

func cross(a, b [3]*big.Rat) (api.Spot, api.Errno) {
	return spotOf(
		difference(product(a[1], b[2]), product(a[2], b[1])),
		difference(product(a[2], b[0]), product(a[0], b[2])),
		difference(product(a[0], b[1]), product(a[1], b[0])))
}

func parallel(a, b [3]*big.Rat) (bool, api.Errno) {
	v, e := cross(a, b)
	return v == spot("0", "0", "0"), e
}

func compare(a, b [3]*big.Rat) (int, api.Errno) {
	for i := range a {
		if n, e := order(a[i], b[i]); n != 0 || e != api.OK {
			return n, e
		}
	}
	return 0, api.OK
}

// A function of two vectors, with its results as a text.
type function struct {
	name   string
	call   func(a, b api.Spot) string
	want   func(a, b [3]*big.Rat) string
	failed func(e api.Errno) string
}

// shown is the text of results.
func shown[R any](r R, e api.Errno) string { return fmt.Sprintf("%#v, error %d", r, e) }

func functionOf[R any](name string, call func(a, b api.Spot) (R, api.Errno), want func(a, b [3]*big.Rat) (R, api.Errno)) function {
	return function{
		name,
		func(a, b api.Spot) string { return shown(call(a, b)) },
		func(a, b [3]*big.Rat) string { return shown(want(a, b)) },
		func(e api.Errno) string { return shown(*new(R), e) },
	}
}

func functions() []function {
	return []function{
		functionOf("Add", vector.Add, combined(sum)),
		functionOf("Sub", vector.Sub, combined(difference)),
		functionOf("Dot", vector.Dot, dot),
		functionOf("Cross", vector.Cross, cross),
		functionOf("Parallel", vector.Parallel, parallel),
		functionOf("Compare", vector.Compare, compare),
	}
}

// check is the error of a vector.
func check(a api.Spot) api.Errno {
	for _, s := range []api.Num{a.X, a.Y, a.Z} {
		if e := rational.Check(s); e != api.OK {
			return e
		}
	}
	return api.OK
}

// scaled is what Scale should return.
func scaled(a api.Spot, c api.Num) (api.Spot, api.Errno) {
	for _, e := range []api.Errno{check(a), rational.Check(c)} {
		if e != api.OK {
			return api.Spot{}, e
		}
	}
	return combined(product)(coordinates(a), coordinates(spot(c, c, c)))
}

// lengthBy is what Length should return. The normal form is layer 3's.
func lengthBy(a api.Spot) (api.Surd, api.Errno) {
	if e := check(a); e != api.OK {
		return nil, e
	}
	q := square(a)
	if q == nil || !isWithin(90, q) {
		return nil, api.ErrLimit
	}
	if q.Sign() == 0 {
		return nil, api.OK
	}
	c, n := normalForm(q)
	if !isWithin(60, c) || length(n) > 40 {
		return nil, api.ErrLimit
	}
	return term(text(c), api.Num(n.String())), api.OK
}

func square(a api.Spot) *big.Rat {
	v := coordinates(a)
	return scalar(v, v)
}

// normalForm returns c and n of the root of q, as layer 3 has them.
func normalForm(q *big.Rat) (*big.Rat, *big.Int) {
	c, n, e := root.Normal(text(q))
	if e != api.OK {
		panic("no root: " + q.String())
	}
	return value(c), value(n).Num()
}

func isSurd(s api.Surd, e api.Errno, want api.Surd, f api.Errno) bool {
	return slices.Equal(s, want) && e == f
}
