package enclosure

import (
	"cmp"
	"strings"

	"kingpost/api"
	"kingpost/rational"
)

func areRanges(l ...api.Range) bool {
	for _, r := range l {
		if Check(r) != api.OK {
			return false
		}
	}
	return true
}

// rangeOf is the range between two numbers, or no range with an error.
func rangeOf(low, high api.Num, e api.Errno) (api.Range, api.Errno) {
	if e != api.OK {
		return api.Range{}, e
	}
	return api.Range{Low: low, High: high}, api.OK
}

func isNegative(a api.Num) bool { return strings.HasPrefix(string(a), "-") }

// products returns the products of an end of a and an end of b.
func products(a, b api.Range) ([]api.Num, api.Errno) {
	var l []api.Num
	for _, x := range [2]api.Num{a.Low, a.High} {
		for _, y := range [2]api.Num{b.Low, b.High} {
			p, e := rational.Mul(x, y)
			if e != api.OK {
				return nil, e
			}
			l = append(l, p)
		}
	}
	return l, api.OK
}

// folded is what a function makes of a range with one number after the other,
// up to the first error.
func folded(r api.Range, l []api.Num, with func(api.Range, api.Num) (api.Range, api.Errno)) (api.Range, api.Errno) {
	e := api.OK
	for _, a := range l {
		if r, e = with(r, a); e != api.OK {
			break
		}
	}
	return r, e
}

// widened is the least range that has all that r has, and a.
func widened(r api.Range, a api.Num) (api.Range, api.Errno) {
	low, e := extreme(r.Low, a, -1)
	high, f := extreme(r.High, a, 1)
	return rangeOf(low, high, cmp.Or(e, f))
}

// common returns what a and b have in common, and true, if there is anything.
func common(a, b api.Range) (api.Range, bool, api.Errno) {
	low, e := extreme(a.Low, b.Low, 1)
	high, f := extreme(a.High, b.High, -1)
	if e := cmp.Or(e, f); e != api.OK {
		return api.Range{}, false, e
	}
	order, e := rational.Compare(low, high)
	if e != api.OK || order > 0 {
		return api.Range{}, false, e
	}
	return api.Range{Low: low, High: high}, true, api.OK
}

// extreme returns the greater one of two numbers if the side is 1, and the
// lesser one if it is -1.
func extreme(a, b api.Num, side int) (api.Num, api.Errno) {
	order, e := rational.Compare(a, b)
	if order == side {
		return a, e
	}
	return b, e
}
