package surd

import (
	"strconv"
	"strings"

	"kingpost/api"
	"kingpost/integer"
	"kingpost/rational"
)

const (
	// allPlaces are those to which terms are rounded down.
	allPlaces = 64
	// fewPlaces are enough for most signs, and make short integers.
	fewPlaces = 4
)

// sign returns the sign of a surd, or ErrLimit if it is not decided.
func sign(s api.Surd) (int, api.Errno) {
	if len(s) == 0 {
		return 0, api.OK
	}
	// With more places a term is rounded down to the same or more, and a unit
	// more is the same or less: what few places decide, all decide likewise.
	for _, places := range [2]int{fewPlaces, allPlaces} {
		low, high := bounds(s, places)
		if isPositive(low) {
			return 1, api.OK
		}
		if !isPositive(high) {
			return -1, api.OK
		}
	}
	return 0, api.ErrLimit
}

// bounds returns the sum of the terms, each one rounded down to so many
// places, in units, and this with a further unit for each term.
func bounds(s api.Surd, places int) (string, string) {
	sum := "0"
	for _, t := range s {
		sum = plus(sum, roundedDown(t, places))
	}
	return sum, plus(sum, strconv.Itoa(len(s)))
}

// roundedDown is the value of a term, rounded down to so many places, in units.
func roundedDown(t api.Term, places int) string {
	n, d, _ := rational.Parts(t.Coef)
	// It is the root of this quotient, with the sign of n. The dividend has at
	// most 120 digits of n, 40 of the Root, and 128 zeros.
	dividend, divisor := times(times(n, n), string(t.Root))+strings.Repeat("0", 2*places), times(d, d)
	below, _, _ := integer.Divide(dividend, divisor)
	size, _ := integer.Root(below)
	if !isNegative(n) {
		return size
	}
	if times(times(size, size), divisor) != dividend {
		size = plus(size, "1")
	}
	return times("-1", size)
}

// Layer 1 has no errors for what is computed with it here: nothing is longer
// than the dividend above.

func plus(a, b string) string {
	c, _ := integer.Add(a, b)
	return c
}

func times(a, b string) string {
	c, _ := integer.Mul(a, b)
	return c
}

func isPositive(a string) bool { return a != "0" && !isNegative(a) }

func isNegative(a string) bool { return strings.HasPrefix(a, "-") }
