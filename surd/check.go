package surd

import (
	"cmp"
	"strings"

	"kingpost/api"
	"kingpost/rational"
	"kingpost/root"
)

const (
	mostGiven = 256 // terms of which a surd is made
	mostCoef  = 60  // digits of a numerator, or of a denominator, in a surd
	mostRoot  = 40  // digits of a Root in a surd
	// A normal integer with so few digits is below 101 * 101, so that it has
	// no square factor at all.
	fewRoot = 4
)

// parts are the terms of a surd, in an array, so that surds can be compared
// as a whole. Behind the terms there are empty ones, which no surd has.
type parts struct{ terms [api.MaxTerm]api.Term }

func partsOf(s api.Surd) parts {
	var p parts
	copy(p.terms[:], s)
	return p
}

func areSurds(l ...api.Surd) bool {
	for _, s := range l {
		if Check(s) != api.OK {
			return false
		}
	}
	return true
}

// checkTerm returns the first error that a term of a surd has by itself.
func checkTerm(t api.Term) api.Errno {
	if e := checkNumbers(t); e != api.OK {
		return e
	}
	switch {
	case t.Coef == "0":
		return api.ErrZero
	case isTooLong(t):
		return api.ErrLimit
	case !isNormal(t.Root):
		return api.ErrKind
	}
	return api.OK
}

// checkPlace returns an error if a normal Root cannot stand behind the terms
// before it.
func checkPlace(r api.Num, before []api.Term) api.Errno {
	if len(before) > 0 && order(r, before[len(before)-1].Root) <= 0 {
		return api.ErrOrder
	}
	for _, t := range before {
		if _, isRational := ratio(r, t.Root); isRational {
			return api.ErrExists
		}
	}
	return api.OK
}

// checkGiven returns the first error of a term of which a surd is made.
func checkGiven(t api.Term) api.Errno {
	if e := checkNumbers(t); e != api.OK {
		return e
	}
	if strings.HasPrefix(string(t.Root), "-") {
		return api.ErrRange
	}
	return api.OK
}

func checkNumbers(t api.Term) api.Errno {
	return cmp.Or(rational.Check(t.Coef), rational.Check(t.Root))
}

func isTooLong(t api.Term) bool {
	return !isShort(t.Coef, mostCoef) || !isShort(t.Root, mostRoot)
}

// isShort tells if numerator and denominator have at most so many digits.
func isShort(a api.Num, most int) bool {
	n, d, _ := strings.Cut(strings.TrimPrefix(string(a), "-"), "/")
	return len(n) <= most && len(d) <= most
}

// isNormal tells if r is a positive integer that is normal: no other number is
// the integer of its own normal form, once.
func isNormal(r api.Num) bool {
	c, n, _ := root.Normal(r)
	return api.Term{Coef: c, Root: n} == api.Term{Coef: "1", Root: r}
}

// order returns -1, 0 or 1, as a positive integer is less than, equal to, or
// greater than another one.
func order(p, q api.Num) int {
	return cmp.Or(cmp.Compare(len(p), len(q)), strings.Compare(string(p), string(q)))
}

// ratio returns the rational c with root p = c root q, and true, if there is
// one. Both are normal integers within the limit of layer 3.
func ratio(p, q api.Num) (api.Num, bool) {
	if p == q {
		return "1", true
	}
	if len(p) <= fewRoot && len(q) <= fewRoot {
		return "", false
	}
	c, isRational, _ := root.Ratio(p, q)
	return c, isRational
}
