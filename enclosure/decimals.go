package enclosure

import (
	"strings"

	"kingpost/api"
	"kingpost/rational"
	"kingpost/root"
	"kingpost/surd"
)

const (
	mostPlaces = 40 // decimal places of the ends of a range
	mostCoef   = 20 // digits of a numerator, or of a denominator, in a short surd
	// With so many further places the terms of a surd, of which each one is
	// rounded up, are together less than a unit too great.
	spare = 2
)

// checkSurds returns the first error of surds that are enclosed: that one is no
// surd comes before that one is not short.
func checkSurds(l ...api.Surd) api.Errno {
	for _, s := range l {
		if surd.Check(s) != api.OK {
			return api.ErrArgument
		}
	}
	for _, s := range l {
		if !isShort(s) {
			return api.ErrLimit
		}
	}
	return api.OK
}

func isShort(s api.Surd) bool {
	for _, t := range s {
		n, d, _ := rational.Parts(t.Coef)
		if len(strings.TrimPrefix(n, "-")) > mostCoef || len(d) > mostCoef {
			return false
		}
	}
	return true
}

// asSurd is the surd whose value is a. If a is too long for one, layer 4 says
// so when it is asked to compare it.
func asSurd(a api.Num) api.Surd {
	if a == "0" {
		return nil
	}
	return api.Surd{{Coef: a, Root: "1"}}
}

func isNumberOfPlaces(n int) bool { return n >= 0 && n <= mostPlaces }

// units yields the numbers of places from 0 on, each with its unit.
func units(yield func(places int, unit api.Num) bool) {
	for n := range mostPlaces + 1 {
		if !yield(n, unitOf(n)) {
			return
		}
	}
}

func unitOf(places int) api.Num {
	if places == 0 {
		return "1"
	}
	return api.Num("1/1" + strings.Repeat("0", places))
}

// around returns the nearest decimals with so many places that a short surd
// lies between.
func around(s api.Surd, places int, unit api.Num) (api.Range, api.Errno) {
	near := nearDecimal(s, places, unit)
	order, e := surd.Compare(asSurd(near), s)
	if e != api.OK {
		return api.Range{}, api.ErrLimit
	}
	r := api.Range{Low: near, High: near}
	other := near
	switch order {
	case -1:
		other, _ = rational.Add(near, unit)
		r.High = other
	case 1:
		other, _ = rational.Sub(near, unit)
		r.Low = other
	}
	// How the other decimal is ordered is clear, but it must be decided, too.
	if _, e := surd.Compare(asSurd(other), s); e != api.OK {
		return api.Range{}, api.ErrLimit
	}
	return r, api.OK
}

// nearDecimal returns the greatest decimal that is at most s, or the least one
// that is at least s: it is the greatest one that is at most the sum of the
// terms, rounded up, and this sum is less than a unit too great. Layers 2 and 3
// have no errors for it, since a short surd is less than 10^42, and the square
// of a term has at most 80 digits.
func nearDecimal(s api.Surd, places int, unit api.Num) api.Num {
	sum := api.Num("0")
	for _, t := range s {
		sum, _ = rational.Add(sum, roundedUp(t, places+spare))
	}
	count, _ := rational.Div(sum, unit)
	count, _ = rational.Floor(count)
	decimal, _ := rational.Mul(count, unit)
	return decimal
}

// roundedUp is the value of a term, rounded up to so many places.
func roundedUp(t api.Term, places int) api.Num {
	square, _ := rational.Mul(t.Coef, t.Coef)
	square, _ = rational.Mul(square, t.Root)
	size, _ := root.Between(square, places)
	if isNegative(t.Coef) {
		up, _ := rational.Sub("0", size.Low)
		return up
	}
	return size.High
}
