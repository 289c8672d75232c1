package integer

// divide returns the quotient and the remainder; b is not 0.
func divide(a, b natural) (natural, natural) {
	if compare(a, b) < 0 {
		return nil, a
	}
	if len(b) == 1 {
		q, r := divideShort(a, b[0])
		return q, ofValue(r)
	}
	return divideLong(a, b)
}

// divideShort divides by a single digit.
func divideShort(a natural, b uint64) (natural, uint64) {
	q, rest := make(natural, len(a)), uint64(0)
	for i := len(a) - 1; i >= 0; i-- {
		t := rest*base + a[i]
		q[i], rest = t/b, t%b
	}
	return q.trimmed(), rest
}

// divideLong divides by two digits or more, by hand as in school. Both are
// multiplied first, so that the first digit of the divisor is at least half of
// the base: then the first digits tell each digit of the quotient nearly.
func divideLong(a, b natural) (natural, natural) {
	scale := base / (b[len(b)-1] + 1)
	rest, by := multiple(a, scale), multiple(b, scale).trimmed()
	q := make(natural, len(a)-len(b)+1)
	for i := len(q) - 1; i >= 0; i-- {
		q[i] = takeOut(rest[i:i+len(by)+1], by)
	}
	r, _ := divideShort(rest.trimmed(), scale)
	return q.trimmed(), r
}

// multiple is a times a single digit, with one digit more than a.
func multiple(a natural, by uint64) natural {
	out, carry := make(natural, 0, len(a)+1), uint64(0)
	for _, x := range a {
		t := x*by + carry
		out, carry = append(out, t%base), t/base
	}
	return append(out, carry)
}

// takeOut takes by out of rest, which has one digit more, as often as
// possible, and returns how often.
func takeOut(rest, by natural) uint64 {
	times := estimate(rest, by)
	if subtract(rest, by, times) {
		restore(rest, by)
		return times - 1
	}
	return times
}

// estimate is how often by goes into rest, or one more: the first two digits
// of rest and the first one of by yield it, the next ones correct it.
func estimate(rest, by natural) uint64 {
	n := len(by)
	first, second := by[n-1], by[n-2]
	top := rest[n]*base + rest[n-1]
	times := min(top/first, base-1)
	for {
		left := top - times*first
		if left >= base || times*second <= left*base+rest[n-2] {
			return times
		}
		times--
	}
}

// subtract takes times by out of rest, and tells if that is more than there
// is; the first digit has passed below 0 then.
func subtract(rest, by natural, times uint64) bool {
	carry := uint64(0)
	for i, y := range by {
		t := times*y + carry
		carry = t / base
		if t %= base; rest[i] < t {
			rest[i] += base
			carry++
		}
		rest[i] -= t
	}
	below := rest[len(by)] < carry
	rest[len(by)] -= carry
	return below
}

// restore adds by to a rest that has passed below 0; its first digit comes
// back to 0.
func restore(rest, by natural) {
	carry := uint64(0)
	for i, y := range by {
		rest[i], carry = addDigits(rest[i], y, carry)
	}
	rest[len(by)] += carry
}
