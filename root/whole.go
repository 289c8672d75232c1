package root

import (
	"strconv"

	"kingpost/integer"
)

// Integers are those of layer 1, which has no errors for what is computed with
// it here: see product.

func plus(a, b string) string {
	c, _ := integer.Add(a, b)
	return c
}

func times(a, b string) string {
	c, _ := integer.Mul(a, b)
	return c
}

// divide returns the quotient, rounded down, and the remainder.
func divide(a, b string) (string, string) {
	q, r, _ := integer.Divide(a, b)
	return q, r
}

func order(a, b string) int {
	n, _ := integer.Compare(a, b)
	return n
}

// rootOf is the root, rounded down.
func rootOf(a string) string {
	r, _ := integer.Root(a)
	return r
}

// small are the primes below 100.
var small = [25]uint64{2, 3, 5, 7, 11, 13, 17, 19, 23, 29, 31, 37, 41, 43, 47, 53, 59, 61, 67, 71, 73, 79, 83, 89, 97}

// primes yields the primes below 100 with their squares.
func primes(yield func(prime, square uint64) bool) {
	for _, p := range small {
		if !yield(p, p*p) {
			return
		}
	}
}

// short is the greatest number of digits of an integer that the machine
// divides by itself.
const short = 18

// withoutSquares divides n, which is positive, by the squares of small primes
// as often as possible. It returns the root of what n was divided by, and what
// is left.
func withoutSquares(n string) (string, string) {
	if len(n) > short {
		return withoutSquaresLong(n)
	}
	v, _ := strconv.ParseUint(n, 10, 64)
	root := uint64(1)
	for prime, square := range primes {
		if square > v {
			break
		}
		for v%square == 0 {
			root, v = root*prime, v/square
		}
	}
	return strconv.FormatUint(root, 10), strconv.FormatUint(v, 10)
}

func withoutSquaresLong(n string) (string, string) {
	root := "1"
	for prime, square := range primes {
		p, s := strconv.FormatUint(prime, 10), strconv.FormatUint(square, 10)
		for q, r := divide(n, s); r == "0"; q, r = divide(n, s) {
			root, n = times(root, p), q
		}
	}
	return root, n
}
