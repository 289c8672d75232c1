package integer

import (
	"strconv"

	"kingpost/api"
)

// signed is an integer by its sign and its size; the sign of 0 has no meaning.
type signed struct {
	negative bool
	size     natural
}

// read is the value of a checked text.
func read(a string) signed {
	return signed{isNegative(a), readNatural(sizeText(a))}
}

// text returns the text of x, or ErrLimit if it has too many digits.
func (x signed) text() (string, api.Errno) {
	if x.size.length() > api.MaxDigits {
		return "", api.ErrLimit
	}
	if len(x.size) == 0 {
		return "0", api.OK
	}
	out := make([]byte, 0, api.MaxDigits+1)
	if x.negative {
		out = append(out, '-')
	}
	last := len(x.size) - 1
	out = strconv.AppendUint(out, x.size[last], 10)
	for i := last - 1; i >= 0; i-- {
		out = appendPadded(out, x.size[i])
	}
	return string(out), api.OK
}

// appendPadded writes a digit of the base with its leading zeros.
func appendPadded(out []byte, digit uint64) []byte {
	var block [width]byte
	for i := width - 1; i >= 0; i-- {
		block[i] = '0' + byte(digit%10)
		digit /= 10
	}
	return append(out, block[:]...)
}

func (x signed) opposite() signed {
	return signed{!x.negative, x.size}
}

func (x signed) plus(y signed) signed {
	if x.negative == y.negative {
		return signed{x.negative, sum(x.size, y.size)}
	}
	if compare(x.size, y.size) < 0 {
		x, y = y, x
	}
	return signed{x.negative, difference(x.size, y.size)}
}

func (x signed) times(y signed) signed {
	return signed{x.negative != y.negative, product(x.size, y.size)}
}

// over returns the quotient, rounded down, and the remainder; y is not 0.
func (x signed) over(y signed) (signed, signed) {
	q, r := divide(x.size, y.size)
	if x.negative != y.negative && len(r) > 0 {
		q, r = sum(q, natural{1}), difference(y.size, r)
	}
	return signed{x.negative != y.negative, q}, signed{y.negative, r}
}
