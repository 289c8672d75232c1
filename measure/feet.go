package measure

import (
	"strings"

	"kingpost/api"
	"kingpost/integer"
)

// twelfth is how many millimetres a twelfth of an inch has.
const twelfth api.Num = "127/60"

// feet is the text of n twelfths.
func feet(n string) (string, api.Errno) {
	size, minus := strings.CutPrefix(n, "-")
	inches, last, e := integer.Divide(size, "12")
	if e != api.OK {
		return "", e
	}
	whole, inches, e := integer.Divide(inches, "12")
	if e != api.OK {
		return "", e
	}
	return signed(whole+"'"+inches+`"`+last, minus), api.OK
}

// twelfths is how many twelfths a text of feet says, and if it is one: if it
// is how so many are printed.
func twelfths(s string) (string, bool) {
	size, minus := strings.CutPrefix(s, "-")
	whole, rest, _ := strings.Cut(size, "'")
	inches, last, _ := strings.Cut(rest, `"`)
	n := "0"
	for _, part := range [3]string{whole, inches, last} {
		times, e := integer.Mul(n, "12")
		if e != api.OK || !consists(part, isDigit) {
			return "", false
		}
		if n, e = integer.Add(times, part); e != api.OK {
			return "", false
		}
	}
	// What is no text of feet but was read so far has inches that make a foot,
	// twelfths that make an inch, or 0 with a minus sign: none is printed so.
	n = signed(n, minus)
	text, e := feet(n)
	return n, e == api.OK && text == s
}
