package rational

import "kingpost/api"

// whole is an integer of which fractions consist: one of the machine, as long
// as it fits, or one of layer 1. An integer that does not fit makes others
// that do not, and has an error.
type whole[T any] interface {
	plus(T) T
	minus(T) T
	times(T) T
	over(T) T
	divisor(T) T
	opposite() T
	compare(T) int
	isNegative() bool
	isOne() bool
	appendTo([]byte) []byte
	err() api.Errno
}

// fraction is a numerator and a denominator.
type fraction[T any] struct{ n, d T }

// rule says which parts of a result two numbers yield. They need not be in
// lowest terms, and what the rule makes on the way must fit.
type rule[T any] func(a, b fraction[T]) fraction[T]

func sum[T whole[T]](a, b fraction[T]) fraction[T] {
	return fraction[T]{a.n.times(b.d).plus(b.n.times(a.d)), a.d.times(b.d)}
}

func difference[T whole[T]](a, b fraction[T]) fraction[T] {
	return fraction[T]{a.n.times(b.d).minus(b.n.times(a.d)), a.d.times(b.d)}
}

func product[T whole[T]](a, b fraction[T]) fraction[T] {
	return fraction[T]{a.n.times(b.n), a.d.times(b.d)}
}

// ratio is the quotient, if b is not 0; and the numbers are ordered as its
// parts are.
func ratio[T whole[T]](a, b fraction[T]) fraction[T] {
	return fraction[T]{a.n.times(b.d), b.n.times(a.d)}
}

// reduced is the function that returns the number that a rule yields.
func reduced[T whole[T]](combine rule[T]) func(a, b fraction[T]) (api.Num, api.Errno) {
	return func(a, b fraction[T]) (api.Num, api.Errno) {
		return lowest(combine(a, b))
	}
}

// order returns -1, 0 or 1, as a is less than, equal to, or greater than b.
func order[T whole[T]](a, b fraction[T]) (int, api.Errno) {
	x := ratio(a, b)
	if e := fit(x); e != api.OK {
		return 0, e
	}
	return x.n.compare(x.d), api.OK
}

// fit returns an error if a part does not fit.
func fit[T whole[T]](x fraction[T]) api.Errno {
	if e := x.n.err(); e != api.OK {
		return e
	}
	return x.d.err()
}

// lowest returns the number that a fraction is; its denominator is not 0.
func lowest[T whole[T]](x fraction[T]) (api.Num, api.Errno) {
	if e := fit(x); e != api.OK {
		return "", e
	}
	if x.d.isNegative() {
		x = fraction[T]{x.n.opposite(), x.d.opposite()}
	}
	if common := x.n.divisor(x.d); !common.isOne() {
		x = fraction[T]{x.n.over(common), x.d.over(common)}
	}
	return text(x), api.OK
}

// text writes a fraction that is in lowest terms.
func text[T whole[T]](x fraction[T]) api.Num {
	var room [40]byte
	out := x.n.appendTo(room[:0])
	if !x.d.isOne() {
		out = x.d.appendTo(append(out, '/'))
	}
	return api.Num(out)
}
