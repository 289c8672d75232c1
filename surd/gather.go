package surd

import (
	"slices"

	"kingpost/api"
	"kingpost/rational"
	"kingpost/root"
)

// mostNormal is the greatest number of digits of a normal integer whose ratios
// layer 3 finds.
const mostNormal = 90

// gathered returns the surd of terms, whose numbers are right.
func gathered(l []api.Term) (api.Surd, api.Errno) {
	var sums []api.Term
	e := visitNormal(l, func(t api.Term) api.Errno {
		var e api.Errno
		sums, e = with(sums, t)
		return e
	})
	if e != api.OK {
		return nil, e
	}
	return surdOf(sums)
}

// visitNormal hands on the terms that are not 0, with normal Roots, to a
// visitor, up to the first error.
func visitNormal(l []api.Term, visit func(api.Term) api.Errno) api.Errno {
	for _, t := range l {
		if t.Coef == "0" || t.Root == "0" {
			continue
		}
		n, e := normal(t)
		if e != api.OK {
			return e
		}
		if e := visit(n); e != api.OK {
			return e
		}
	}
	return api.OK
}

// normal returns the term with a normal Root that is equal to t.
func normal(t api.Term) (api.Term, api.Errno) {
	c, n, e := root.Normal(t.Root)
	if e != api.OK {
		return api.Term{}, e
	}
	if len(n) > mostNormal {
		return api.Term{}, api.ErrLimit
	}
	coef, e := rational.Mul(t.Coef, c)
	return api.Term{Coef: coef, Root: n}, e
}

// with returns the sums with a term added to the one whose root has a rational
// ratio to its own, or as a further one.
func with(sums []api.Term, t api.Term) ([]api.Term, api.Errno) {
	for i, s := range sums {
		low, high := s, t
		if order(low.Root, high.Root) > 0 {
			low, high = high, low
		}
		c, isRational := ratio(high.Root, low.Root)
		if !isRational {
			continue
		}
		coef, e := rational.Mul(high.Coef, c)
		if e != api.OK {
			return nil, e
		}
		// A sum that is 0 stays, since its Root counts for further terms.
		coef, e = rational.Add(low.Coef, coef)
		sums[i] = api.Term{Coef: coef, Root: low.Root}
		return sums, e
	}
	return append(sums, t), api.OK
}

// surdOf returns the surd that has the sums that are not 0 as its terms.
func surdOf(sums []api.Term) (api.Surd, api.Errno) {
	s := slices.DeleteFunc(sums, func(t api.Term) bool { return t.Coef == "0" })
	if len(s) > api.MaxTerm || slices.ContainsFunc(s, isTooLong) {
		return nil, api.ErrLimit
	}
	slices.SortFunc(s, func(a, b api.Term) int { return order(a.Root, b.Root) })
	return s, api.OK
}

// difference is s less t, which are surds.
func difference(s, t api.Surd) (api.Surd, api.Errno) {
	// Turning signs has no error.
	opposite, _ := scaled(t, "-1")
	return gathered(slices.Concat(s, opposite))
}

// scaled returns the terms of s with Coefs times c.
func scaled(s api.Surd, c api.Num) ([]api.Term, api.Errno) {
	l := slices.Clone(s)
	for i, t := range s {
		var e api.Errno
		if l[i].Coef, e = rational.Mul(t.Coef, c); e != api.OK {
			return nil, e
		}
	}
	return l, api.OK
}

// product is the product of terms of surds: their parts are short enough for
// the products to be within the limits of layer 2.
func product(a, b api.Term) api.Term {
	coef, _ := rational.Mul(a.Coef, b.Coef)
	r, _ := rational.Mul(a.Root, b.Root)
	return api.Term{Coef: coef, Root: r}
}
