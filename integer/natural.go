package integer

import (
	"cmp"
	"iter"
)

// A digit of the base is as many decimal digits as leave room for the product
// of two, with what is carried, in 64 bits.
const (
	width = 9
	base  = 1_000_000_000
)

// natural is an integer that is not negative: its digits of the base, the last
// one first, without zeros in front of the number. 0 has no digits.
type natural []uint64

// readNatural is the value of a text of decimal digits.
func readNatural(text string) natural {
	n := make(natural, 0, len(text)/width+1)
	for digit := range digits(text) {
		n = append(n, digit)
	}
	return n.trimmed()
}

// digits yields the digits of the base of a text, from the last one on.
func digits(text string) iter.Seq[uint64] {
	return func(yield func(uint64) bool) {
		for end := len(text); end > 0; end -= width {
			if !yield(value(text[max(0, end-width):end])) {
				return
			}
		}
	}
}

// trimmed is n without zeros in front of the number.
func (n natural) trimmed() natural {
	for len(n) > 0 && n[len(n)-1] == 0 {
		n = n[:len(n)-1]
	}
	return n
}

// length is the number of decimal digits; that of 0 is 0.
func (n natural) length() int {
	if len(n) == 0 {
		return 0
	}
	count := (len(n) - 1) * width
	for first := n[len(n)-1]; first > 0; first /= 10 {
		count++
	}
	return count
}

// machine is the value of n, of which two digits at most are asked.
func (n natural) machine() uint64 {
	return n.at(1)*base + n.at(0)
}

// at is a digit of n, 0 in front of the number.
func (n natural) at(i int) uint64 {
	if i < len(n) {
		return n[i]
	}
	return 0
}

// ofValue is the natural of a number below the square of the base.
func ofValue(n uint64) natural {
	return natural{n % base, n / base}.trimmed()
}

// shifted is n times the base to the power of places.
func (n natural) shifted(places int) natural {
	return append(make(natural, places, places+len(n)), n...).trimmed()
}

func compare(a, b natural) int {
	if len(a) != len(b) {
		return cmp.Compare(len(a), len(b))
	}
	for i := len(a) - 1; i >= 0; i-- {
		if a[i] != b[i] {
			return cmp.Compare(a[i], b[i])
		}
	}
	return 0
}

func sum(a, b natural) natural {
	if len(a) < len(b) {
		a, b = b, a
	}
	return combine(a, b, addDigits)
}

// difference is a less b, which is not greater.
func difference(a, b natural) natural {
	return combine(a, b, subtractDigits)
}

// combine makes a number of the pairs of digits of a and b, from the last one
// on, where b has not more of them. The function step makes a digit of a pair
// and of what is carried to it, and says what is carried on.
func combine(a, b natural, step func(x, y, carry uint64) (uint64, uint64)) natural {
	out := make(natural, 0, len(a)+1)
	carry := uint64(0)
	for x, y := range pairs(a, b) {
		digit, next := step(x, y, carry)
		out, carry = append(out, digit), next
	}
	return append(out, carry).trimmed()
}

// pairs yields the digits of a, each with that of b in its place.
func pairs(a, b natural) iter.Seq2[uint64, uint64] {
	return func(yield func(uint64, uint64) bool) {
		for i, x := range a {
			if !yield(x, b.at(i)) {
				return
			}
		}
	}
}

func addDigits(x, y, carry uint64) (uint64, uint64) {
	if t := x + y + carry; t >= base {
		return t - base, 1
	}
	return x + y + carry, 0
}

func subtractDigits(x, y, borrow uint64) (uint64, uint64) {
	if x < y+borrow {
		return x + base - y - borrow, 1
	}
	return x - y - borrow, 0
}

func product(a, b natural) natural {
	out := make(natural, len(a)+len(b))
	for i, x := range a {
		carry := uint64(0)
		for j, y := range b {
			t := out[i+j] + x*y + carry
			out[i+j], carry = t%base, t/base
		}
		out[i+len(b)] = carry
	}
	return out.trimmed()
}
