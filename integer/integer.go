// Package integer is layer 1: integers of many digits, as decimal strings.
// See shared/doc/01-integer.md.
package integer

import (
	"cmp"
	"math/bits"
	"strings"

	"kingpost/api"
)

// Check returns OK if a is an integer.
func Check(a string) api.Errno {
	size := sizeText(a)
	for i := range len(size) {
		if size[i] < '0' || size[i] > '9' {
			return api.ErrNumber
		}
	}
	if size == "" || size[0] == '0' && a != "0" {
		return api.ErrNumber
	}
	if len(size) > api.MaxDigits {
		return api.ErrLimit
	}
	return api.OK
}

// checkBoth returns the first error of Check.
func checkBoth(a, b string) api.Errno {
	if e := Check(a); e != api.OK {
		return e
	}
	return Check(b)
}

// sizeText is a without its minus sign.
func sizeText(a string) string {
	if isNegative(a) {
		return a[1:]
	}
	return a
}

func isNegative(a string) bool {
	return a != "" && a[0] == '-'
}

// Add returns the sum.
func Add(a, b string) (string, api.Errno) {
	if e := checkBoth(a, b); e != api.OK {
		return "", e
	}
	if isShort(a) && isShort(b) {
		return ofMachine(machine(a) + machine(b)), api.OK
	}
	return read(a).plus(read(b)).text()
}

// Sub returns a less b.
func Sub(a, b string) (string, api.Errno) {
	if e := checkBoth(a, b); e != api.OK {
		return "", e
	}
	if isShort(a) && isShort(b) {
		return ofMachine(machine(a) - machine(b)), api.OK
	}
	return read(a).plus(read(b).opposite()).text()
}

// Mul returns the product.
func Mul(a, b string) (string, api.Errno) {
	if e := checkBoth(a, b); e != api.OK {
		return "", e
	}
	if len(a)+len(b) <= short {
		return ofMachine(machine(a) * machine(b)), api.OK
	}
	return read(a).times(read(b)).text()
}

// Divide returns the quotient, rounded down, and the remainder.
func Divide(a, b string) (string, string, api.Errno) {
	if e := checkBoth(a, b); e != api.OK {
		return "", "", e
	}
	if b == "0" {
		return "", "", api.ErrZero
	}
	if isShort(a) && isShort(b) {
		q, r := divideMachine(machine(a), machine(b))
		return ofMachine(q), ofMachine(r), api.OK
	}
	quotient, remainder := read(a).over(read(b))
	// Neither has too many digits: the remainder is less than b, and where the
	// quotient is rounded, b is more than 1, so that it is less than a.
	q, _ := quotient.text()
	r, _ := remainder.text()
	return q, r, api.OK
}

// Compare returns -1, 0 or 1, as a is less than, equal to, or greater than b.
func Compare(a, b string) (int, api.Errno) {
	if e := checkBoth(a, b); e != api.OK {
		return 0, e
	}
	switch {
	case isNegative(a) && isNegative(b):
		return compareSizes(sizeText(b), sizeText(a)), api.OK
	case isNegative(a):
		return -1, api.OK
	case isNegative(b):
		return 1, api.OK
	}
	return compareSizes(a, b), api.OK
}

// compareSizes compares texts of digits: without leading zeros the longer one
// is the greater number, and equally long ones are ordered as strings.
func compareSizes(a, b string) int {
	if len(a) != len(b) {
		return cmp.Compare(len(a), len(b))
	}
	return strings.Compare(a, b)
}

// Gcd returns the greatest common divisor, 0 if both are 0.
func Gcd(a, b string) (string, api.Errno) {
	if e := checkBoth(a, b); e != api.OK {
		return "", e
	}
	a, b = sizeText(a), sizeText(b)
	if isShort(a) && isShort(b) {
		return ofMachine(int64(gcdMachine(value(a), value(b)))), api.OK
	}
	return signed{size: gcd(readNatural(a), readNatural(b))}.text()
}

// Root returns the root, rounded down.
func Root(a string) (string, api.Errno) {
	if e := Check(a); e != api.OK {
		return "", e
	}
	if isNegative(a) {
		return "", api.ErrRange
	}
	return signed{size: root(readNatural(a))}.text()
}

// Power returns a to the power of n.
func Power(a string, n int) (string, api.Errno) {
	if e := Check(a); e != api.OK {
		return "", e
	}
	if n < 0 || n > api.MaxList {
		return "", api.ErrRange
	}
	x, power := read(a), signed{size: natural{1}}
	// From the first bit of n on, every power on the way is one with a lesser
	// exponent: if it has too many digits, the result has too.
	for i := bits.Len(uint(n)) - 1; i >= 0; i-- {
		power = power.times(power)
		if n>>i&1 == 1 {
			power = power.times(x)
		}
		if power.size.length() > api.MaxDigits {
			return "", api.ErrLimit
		}
	}
	return power.text()
}
