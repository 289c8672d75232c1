package integer

// gcd is the greatest common divisor. It overwrites a and b.
func gcd(a, b natural) natural {
	if compare(a, b) < 0 {
		a, b = b, a
	}
	for len(b) > 2 {
		if c := leadingSteps(a, b); c.any() {
			a, b = c.apply(a, b)
		} else {
			_, r := divide(a, b)
			a, b = b, r
		}
	}
	if len(b) == 0 {
		return a
	}
	_, r := divide(a, b)
	return ofValue(gcdMachine(b.machine(), r.machine()))
}

// cofactors say what some steps of Euclid's algorithm make of a and b:
// a times x1 and b times y1, and a times x2 and b times y2.
type cofactors struct{ x1, y1, x2, y2 int64 }

// any tells if there was a step.
func (c cofactors) any() bool { return c.y1 != 0 }

// leadingSteps does Euclid's algorithm with the first 18 decimal digits alone,
// as long as the digits behind them cannot change a quotient. (Lehmer's
// algorithm, with Collins's condition for when to stop; the cofactors stay
// below the base, since the square of one is at most the number of 18 digits.)
func leadingSteps(a, b natural) cofactors {
	scale := uint64(1)
	for a[len(a)-1]*scale*10 < base {
		scale *= 10
	}
	p, q := int64(a.leading(len(a), scale)), int64(b.leading(len(a), scale))
	// The signs of the cofactors alternate: sign is that of x1 and of y2.
	var x0, x1, x2, y0, y1, y2, sign int64 = 0, 1, 0, 0, 0, 1, -1
	for q >= y2 && p-q >= y1+y2 {
		times := p / q
		p, q = q, p%q
		x0, x1, x2 = x1, x2, x1+times*x2
		y0, y1, y2 = y1, y2, y1+times*y2
		sign = -sign
	}
	return cofactors{sign * x0, -sign * y0, -sign * x1, sign * y1}
}

// leading is what stands in the first 18 decimal digits of a number of the
// given number of digits, whose first one becomes full by the scale.
func (n natural) leading(count int, scale uint64) uint64 {
	return (n.at(count-1)*base+n.at(count-2))*scale + n.at(count-3)/(base/scale)
}

// apply does the steps, in place; a has at least as many digits as b.
func (c cofactors) apply(a, b natural) (natural, natural) {
	for len(b) < len(a) {
		b = append(b, 0)
	}
	var carry1, carry2 int64
	for i := range a {
		x, y := int64(a[i]), int64(b[i])
		a[i], carry1 = divideByBase(c.x1*x + c.y1*y + carry1)
		b[i], carry2 = divideByBase(c.x2*x + c.y2*y + carry2)
	}
	return a.trimmed(), b.trimmed()
}

// divideByBase returns the digit, and what is carried, which can be negative.
func divideByBase(t int64) (uint64, int64) {
	carry, digit := divideMachine(t, base)
	return uint64(digit), carry
}
