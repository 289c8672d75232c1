package integer

import (
	"math/bits"
	"strconv"
)

// short is the greatest number of characters of an integer that the machine
// computes with by itself: the sum of two, and a product of factors with as
// many characters together, fit into 64 bits.
const short = 18

func isShort(a string) bool { return len(a) <= short }

// machine is the value of a short integer.
func machine(a string) int64 {
	if isNegative(a) {
		return -int64(value(a[1:]))
	}
	return int64(value(a))
}

// value is the value of a short text of digits.
func value(text string) uint64 {
	n := uint64(0)
	for i := range len(text) {
		n = n*10 + uint64(text[i]-'0')
	}
	return n
}

func ofMachine(n int64) string { return strconv.FormatInt(n, 10) }

// divideMachine rounds down, where the machine rounds towards 0.
func divideMachine(a, b int64) (int64, int64) {
	q, r := a/b, a%b
	if r != 0 && (r < 0) != (b < 0) {
		return q - 1, r + b
	}
	return q, r
}

func gcdMachine(a, b uint64) uint64 {
	for b != 0 {
		a, b = b, a%b
	}
	return a
}

// rootMachine is the root, rounded down, by Newton's steps: they descend from
// a number that is greater until they have arrived.
func rootMachine(n uint64) uint64 {
	if n == 0 {
		return 0
	}
	guess := uint64(1) << ((bits.Len64(n) + 1) / 2)
	for {
		next := (guess + n/guess) / 2
		if next >= guess {
			return guess
		}
		guess = next
	}
}
