package rounding

import (
	"cmp"
	"slices"

	"kingpost/api"
)

// mostShare is the greatest total, and the greatest weight: their products fit
// into 64 bits, and so do sums of MaxList weights.
const mostShare = 1 << 30

// portion is what the weight at a place gets first, and the remainder of the
// division.
type portion struct{ place, size, remainder int }

// checkShares returns the first error of a total and weights by themselves.
func checkShares(total int, weights []int) api.Errno {
	switch {
	case !isShare(total):
		return api.ErrRange
	case len(weights) > api.MaxList:
		return api.ErrLimit
	}
	for _, w := range weights {
		if !isShare(w) {
			return api.ErrRange
		}
	}
	return api.OK
}

func isShare(n int) bool { return n >= 0 && n <= mostShare }

func sumOf(l []int) int {
	sum := 0
	for _, n := range l {
		sum += n
	}
	return sum
}

// shares returns the shares of a total by weights with a sum that is not 0.
func shares(total int, weights []int, sum int) []int {
	portions, left := make([]portion, len(weights)), total
	for i, w := range weights {
		portions[i] = portion{place: i, size: total * w / sum, remainder: total * w % sum}
		left -= portions[i].size
	}
	slices.SortFunc(portions, precedes)
	out := make([]int, len(weights))
	for i, p := range portions {
		out[p.place] = p.size
		if i < left {
			out[p.place]++
		}
	}
	return out
}

// precedes orders portions as what is left is given: first to the greatest
// remainder, and to the first place of equal ones.
func precedes(a, b portion) int {
	return cmp.Or(cmp.Compare(b.remainder, a.remainder), cmp.Compare(a.place, b.place))
}
