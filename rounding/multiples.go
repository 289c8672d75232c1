package rounding

import (
	"strings"

	"kingpost/api"
	"kingpost/enclosure"
	"kingpost/rational"
	"kingpost/surd"
)

// A choice is which integer to take for a surd.
type choice func(api.Surd) (api.Num, api.Errno)

// below takes the greatest integer that is at most s.
func below(s api.Surd) (api.Num, api.Errno) {
	r, e := enclosure.Of(s, 0)
	return r.Low, e
}

// above takes the least integer that is at least s.
func above(s api.Surd) (api.Num, api.Errno) {
	r, e := enclosure.Of(s, 0)
	return r.High, e
}

// shifted takes for a surd the integer that is taken for it and a number more.
func shifted(more api.Num, take choice) choice {
	return func(s api.Surd) (api.Num, api.Errno) {
		t, e := surdOf(more)
		if e != api.OK {
			return "", e
		}
		sum, e := surd.Add(s, t)
		if e != api.OK {
			return "", e
		}
		return take(sum)
	}
}

// multiple is so many units as the integer that is taken for s in units.
func multiple(s api.Surd, unit api.Num, take choice) (api.Num, api.Errno) {
	n, e := count(s, unit, take)
	if e != api.OK {
		return "", e
	}
	return rational.Mul(n, unit)
}

// count is the integer that is taken for s in units.
func count(s api.Surd, unit api.Num, take choice) (api.Num, api.Errno) {
	if !areRight(s, unit) {
		return "", api.ErrArgument
	}
	if unit == "0" || isNegative(unit) {
		return "", api.ErrRange
	}
	inverse, e := rational.Div("1", unit)
	if e != api.OK {
		return "", e
	}
	units, e := surd.Scale(s, inverse)
	if e != api.OK {
		return "", e
	}
	return take(units)
}

// compared compares s with what an operation makes of r and e.
func compared(s api.Surd, r, e api.Num, operation func(a, b api.Num) (api.Num, api.Errno)) (int, api.Errno) {
	end, f := operation(r, e)
	if f != api.OK {
		return 0, f
	}
	t, f := surdOf(end)
	if f != api.OK {
		return 0, f
	}
	return surd.Compare(s, t)
}

// surdOf returns the surd whose value is a.
func surdOf(a api.Num) (api.Surd, api.Errno) {
	return surd.Make([]api.Term{{Coef: a, Root: "1"}})
}

// areRight tells if s is a surd, and the numbers are some.
func areRight(s api.Surd, numbers ...api.Num) bool {
	for _, a := range numbers {
		if rational.Check(a) != api.OK {
			return false
		}
	}
	return surd.Check(s) == api.OK
}

func isNegative(a api.Num) bool { return strings.HasPrefix(string(a), "-") }
