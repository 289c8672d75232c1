package slope

import (
	"cmp"

	"kingpost/api"
	"kingpost/rational"
	"kingpost/surd"
)

// formula is what is computed for each face from its pitch, and for both from
// that. Layer 2 has no error for positive numbers but that of its limit.
type formula struct {
	face func(p api.Num) (api.Num, api.Errno)
	both func(a, b api.Num) (api.Num, api.Errno)
}

// of returns the formula's number for two pitches.
func (f formula) of(p, q api.Num) (api.Num, api.Errno) {
	if e := cmp.Or(checkPositive(p), checkPositive(q)); e != api.OK {
		return "", e
	}
	a, e := f.face(p)
	if e != api.OK {
		return "", e
	}
	b, e := f.face(q)
	if e != api.OK {
		return "", e
	}
	return f.both(a, b)
}

func checkPositive(p api.Num) api.Errno {
	sign, e := rational.Compare(p, "0")
	if e == api.OK && sign <= 0 {
		return api.ErrRange
	}
	return e
}

// What is computed for one face.

func itself(p api.Num) (api.Num, api.Errno) { return p, api.OK }

func square(p api.Num) (api.Num, api.Errno) { return rational.Mul(p, p) }

func inverseSquare(p api.Num) (api.Num, api.Errno) { return inverse(square(p)) }

func squareAndOne(p api.Num) (api.Num, api.Errno) {
	s, e := square(p)
	if e != api.OK {
		return "", e
	}
	return rational.Add("1", s)
}

// What is computed for both.

func over(a, b api.Num) (api.Num, api.Errno) { return rational.Div(b, a) }

func inverseSum(a, b api.Num) (api.Num, api.Errno) { return inverse(rational.Add(a, b)) }

func inverseProduct(a, b api.Num) (api.Num, api.Errno) { return inverse(rational.Mul(a, b)) }

func oneAndSum(a, b api.Num) (api.Num, api.Errno) { return rational.Sum([]api.Num{"1", a, b}) }

// inverse is the inverse of a result, if it has no error.
func inverse(a api.Num, e api.Errno) (api.Num, api.Errno) {
	if e != api.OK {
		return "", e
	}
	return rational.Div("1", a)
}

// rootOf is the root of a result, if it has no error.
func rootOf(a api.Num, e api.Errno) (api.Surd, api.Errno) {
	if e != api.OK {
		return nil, e
	}
	return surd.Make([]api.Term{{Coef: "1", Root: a}})
}

// inverseOf is the inverse of a term of a surd: that of c root n is root n,
// divided by c n. What is computed is far below layer 2's limit.
func inverseOf(t api.Term) (api.Surd, api.Errno) {
	c, e := inverse(rational.Mul(t.Coef, t.Root))
	if e != api.OK {
		return nil, e
	}
	return surd.Make([]api.Term{{Coef: c, Root: t.Root}})
}
