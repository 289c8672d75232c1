package rational

import (
	"cmp"
	"math"
	"math/bits"
	"strconv"

	"kingpost/api"
)

// machine is an integer that the machine computes with by itself. Products are
// of less than 2^62 in size, so that their sums and differences fit as well.
type machine int64

// tooLong stands for all integers that do not fit.
const tooLong machine = math.MinInt64

// most is the greatest number of digits of a part that is read here.
const most = 18

func (a machine) plus(b machine) machine {
	if a == tooLong || b == tooLong {
		return tooLong
	}
	return a + b
}

func (a machine) minus(b machine) machine { return a.plus(b.opposite()) }

func (a machine) times(b machine) machine {
	high, low := bits.Mul64(a.size(), b.size())
	if high != 0 || low >= 1<<62 {
		return tooLong
	}
	return a * b
}

func (a machine) over(b machine) machine { return a / b }

func (a machine) opposite() machine { return -a }

func (a machine) size() uint64 {
	if a < 0 {
		return uint64(-a)
	}
	return uint64(a)
}

func (a machine) compare(b machine) int { return cmp.Compare(a, b) }

func (a machine) isNegative() bool { return a < 0 }

func (a machine) isOne() bool { return a == 1 }

func (a machine) appendTo(out []byte) []byte { return strconv.AppendInt(out, int64(a), 10) }

func (a machine) err() api.Errno {
	if a == tooLong {
		return api.ErrLimit
	}
	return api.OK
}

// divisor is the greatest common divisor. Both are halved as often as they can
// be, and their difference takes the place of the greater one, which is faster
// than dividing.
func (a machine) divisor(b machine) machine {
	x, y := a.size(), b.size()
	if x == 0 || y == 0 {
		return machine(x + y)
	}
	twos := bits.TrailingZeros64(x | y)
	x >>= bits.TrailingZeros64(x)
	for y != 0 {
		y >>= bits.TrailingZeros64(y)
		x, y = min(x, y), max(x, y)-min(x, y)
	}
	return machine(x << twos)
}

// readMachine returns the parts of a, and true, if a is a number whose parts
// are short.
func readMachine(a api.Num) (fraction[machine], bool) {
	n, d, isFraction := cut(a)
	x, ok := readDigits(n)
	if !ok {
		return fraction[machine]{}, false
	}
	if !isFraction {
		return fraction[machine]{x, 1}, true
	}
	y, ok := readDigits(d)
	return fraction[machine]{x, y}, ok && y > 1 && x.divisor(y) == 1
}

func readMachines(a, b api.Num) (fraction[machine], fraction[machine], bool) {
	x, ok := readMachine(a)
	if !ok {
		return x, x, false
	}
	y, ok := readMachine(b)
	return x, y, ok
}

// readDigits returns the value of a short integer.
func readDigits(text string) (machine, bool) {
	isBelow := len(text) > 1 && text[0] == '-'
	digits := text
	if isBelow {
		digits = text[1:]
	}
	if len(digits) > most || digits == "" || digits[0] == '0' && text != "0" {
		return 0, false
	}
	n := machine(0)
	for i := range len(digits) {
		if digits[i] < '0' || digits[i] > '9' {
			return 0, false
		}
		n = n*10 + machine(digits[i]-'0')
	}
	if isBelow {
		return -n, true
	}
	return n, true
}
