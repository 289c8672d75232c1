package rational

import (
	"strings"

	"kingpost/api"
	"kingpost/integer"
)

// long is an integer of layer 1, or the error that there is instead of it.
type long struct {
	text string
	e    api.Errno
}

// with applies a function of layer 1.
func (a long) with(b long, f func(a, b string) (string, api.Errno)) long {
	if a.e != api.OK {
		return a
	}
	if b.e != api.OK {
		return b
	}
	c, e := f(a.text, b.text)
	return long{c, e}
}

func (a long) plus(b long) long { return a.with(b, integer.Add) }

func (a long) minus(b long) long { return a.with(b, integer.Sub) }

func (a long) times(b long) long { return a.with(b, integer.Mul) }

func (a long) over(b long) long { return a.with(b, quotient) }

func (a long) divisor(b long) long { return a.with(b, integer.Gcd) }

func (a long) opposite() long { return long{text: "0"}.minus(a) }

func quotient(a, b string) (string, api.Errno) {
	q, _, e := integer.Divide(a, b)
	return q, e
}

// compare is asked of integers without errors only.
func (a long) compare(b long) int {
	n, _ := integer.Compare(a.text, b.text)
	return n
}

func (a long) isNegative() bool { return strings.HasPrefix(a.text, "-") }

func (a long) isOne() bool { return a.text == "1" }

func (a long) appendTo(out []byte) []byte { return append(out, a.text...) }

func (a long) err() api.Errno { return a.e }

// cut returns the texts of the numerator and of the denominator, which is 1 if
// there is no slash, and if there is one.
func cut(a api.Num) (string, string, bool) {
	if n, d, isFraction := strings.Cut(string(a), "/"); isFraction {
		return n, d, true
	}
	return string(a), "1", false
}

// readLong returns the parts of a, or the error of Check.
func readLong(a api.Num) (fraction[long], api.Errno) {
	n, d, isFraction := cut(a)
	first, second := integer.Check(n), integer.Check(d)
	hasForm := first != api.ErrNumber && second != api.ErrNumber && d[0] != '-' && d != "0"
	if !hasForm || isFraction && d == "1" {
		return fraction[long]{}, api.ErrNumber
	}
	if first != api.OK || second != api.OK {
		return fraction[long]{}, api.ErrLimit
	}
	x := fraction[long]{long{text: n}, long{text: d}}
	if isFraction && !x.n.divisor(x.d).isOne() {
		return fraction[long]{}, api.ErrNumber
	}
	return x, api.OK
}
