package measure

import (
	"strings"

	"kingpost/api"
	"kingpost/rational"
)

const (
	maxPrinted = 90 // digits of what is printed
	maxRead    = 90 // bytes of what is read
)

// check returns the error of a number that is to be printed.
func check(a api.Num) api.Errno {
	n, d, e := rational.Parts(a)
	if e != api.OK {
		return e
	}
	size, _ := strings.CutPrefix(n, "-")
	if len(size) > maxPrinted || len(d) > maxPrinted {
		return api.ErrLimit
	}
	return api.OK
}

// inLastPlace is how many units of the last place a is.
func inLastPlace(a api.Num, places int) (api.Num, api.Errno) {
	if e := check(a); e != api.OK {
		return "", e
	}
	if places < 0 || places > api.MaxPlaces {
		return "", api.ErrRange
	}
	return rational.Mul(a, api.Num(tenTo(places)))
}

// nearest is the integer that is nearest to a, the greater one of two.
func nearest(a api.Num) (string, api.Errno) {
	more, e := rational.Add(a, "1/2")
	if e != api.OK {
		return "", e
	}
	n, e := rational.Floor(more)
	return string(n), e
}

// decimal is the text of n units of the last place.
func decimal(n string, places int) string {
	size, minus := strings.CutPrefix(n, "-")
	if places == 0 {
		return signed(size, minus)
	}
	// The whole part has a digit, even if it is 0.
	size = strings.Repeat("0", max(0, places+1-len(size))) + size
	whole := len(size) - places
	return signed(size[:whole]+"."+size[whole:], minus)
}

// fraction returns the numerator and the denominator, not reduced, of a text
// without sign, and if it is one.
func fraction(s string) (string, string, bool) {
	if whole, places, ok := strings.Cut(s, "."); ok {
		return withoutZeros(whole + places), tenTo(len(places)), consists(whole, isDigit) && consists(places, isDigit)
	}
	n, d, ok := strings.Cut(s, "/")
	if !ok {
		d = "1"
	}
	return withoutZeros(n), withoutZeros(d), consists(n, isDigit) && consists(d, isDigit)
}

// withoutZeros is an integer's text without the zeros in front.
func withoutZeros(digits string) string {
	if size := strings.TrimLeft(digits, "0"); size != "" {
		return size
	}
	return "0"
}

// signed puts a minus sign in front, but not of 0, which has none.
func signed(size string, minus bool) string {
	if minus && size != "0" {
		return "-" + size
	}
	return size
}

// tenTo is a power of ten.
func tenTo(n int) string { return "1" + strings.Repeat("0", n) }
