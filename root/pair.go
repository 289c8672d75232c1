package root

import (
	"strings"

	"kingpost/api"
)

// pair is a numerator and a denominator, which is positive. Those of a number
// are in lowest terms.
type pair struct{ n, d string }

func parts(a api.Num) pair {
	if n, d, isFraction := strings.Cut(string(a), "/"); isFraction {
		return pair{n, d}
	}
	return pair{string(a), "1"}
}

// number is the number of which these are the parts.
func (x pair) number() api.Num {
	if x.d == "1" {
		return api.Num(x.n)
	}
	return api.Num(x.n + "/" + x.d)
}

// each yields the numerator, and then the denominator.
func (x pair) each(yield func(string) bool) {
	_ = yield(x.n) && yield(x.d)
}

func (x pair) times(y pair) pair { return pair{times(x.n, y.n), times(x.d, y.d)} }

func (x pair) inverse() pair { return pair{x.d, x.n} }

func (x pair) size() pair { return pair{strings.TrimPrefix(x.n, "-"), x.d} }

// root returns the root of a number, and true, if it is rational: both parts
// are squares then.
func (x pair) root() (api.Num, bool) {
	var roots []string
	for part := range x.each {
		r := rootOf(part)
		if times(r, r) != part {
			return "", false
		}
		roots = append(roots, r)
	}
	return pair{roots[0], roots[1]}.number(), true
}

// normal returns both numbers of the normal form of the root of a number. What
// squares divide a product of parts without a common divisor, divide the parts:
// the root of a^2 m / (b^2 n) is a / (b n) times that of m n.
func (x pair) normal() (api.Num, api.Num) {
	if c, isRational := x.root(); isRational {
		return c, "1"
	}
	a, m := withoutSquares(x.n)
	b, n := withoutSquares(x.d)
	return pair{a, times(b, n)}.number(), api.Num(times(m, n))
}

// compare returns -1, 0 or 1, as x is less than, equal to, or greater than y.
// The products that are compared otherwise can be too long for layer 1. But if
// the integers below x and y are equal, x and y are ordered as what is above
// these, and the inverses of that the other way round.
func (x pair) compare(y pair) int {
	for {
		below, above := divide(x.n, x.d)
		otherBelow, otherAbove := divide(y.n, y.d)
		if below != otherBelow {
			return order(below, otherBelow)
		}
		if above == "0" || otherAbove == "0" {
			return order(above, otherAbove)
		}
		x, y = pair{y.d, otherAbove}, pair{x.d, above}
	}
}

// rootDown is the root, rounded down. It does not matter for it what is above
// the integer below x.
func (x pair) rootDown() string {
	below, _ := divide(x.n, x.d)
	return rootOf(below)
}

// rootUp is the root, rounded up.
func (x pair) rootUp() string {
	r := x.rootDown()
	if times(times(r, r), x.d) == x.n {
		return r
	}
	return plus(r, "1")
}

// nearestRoot is the nearest integer to the root, the greater one of two: half
// of the double root, which is rounded down, is rounded up.
func (x pair) nearestRoot() string {
	double := pair{times(x.n, "4"), x.d}.rootDown()
	half, rest := divide(double, "2")
	return plus(half, rest)
}
