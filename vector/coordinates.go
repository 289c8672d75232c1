package vector

import (
	"kingpost/api"
	"kingpost/rational"
	"kingpost/root"
	"kingpost/surd"
)

// vector has the coordinates X, Y and Z in their order.
type vector [3]api.Num

func of(a api.Spot) vector { return vector{a.X, a.Y, a.Z} }

func (v vector) spot() api.Spot { return api.Spot{X: v[0], Y: v[1], Z: v[2]} }

func (v vector) isZero() bool { return v == vector{"0", "0", "0"} }

func (v vector) check() api.Errno {
	for _, a := range v {
		if e := rational.Check(a); e != api.OK {
			return e
		}
	}
	return api.OK
}

// made is the vector of the coordinates that a function yields for their places.
func made(coordinate func(i int) (api.Num, api.Errno)) (vector, api.Errno) {
	var out vector
	for i := range out {
		a, e := coordinate(i)
		if e != api.OK {
			return vector{}, e
		}
		out[i] = a
	}
	return out, api.OK
}

// combined combines the vectors coordinate by coordinate.
func (v vector) combined(w vector, with func(a, b api.Num) (api.Num, api.Errno)) (vector, api.Errno) {
	return made(func(i int) (api.Num, api.Errno) { return with(v[i], w[i]) })
}

func (v vector) plus(w vector) (vector, api.Errno) { return v.combined(w, rational.Add) }

func (v vector) minus(w vector) (vector, api.Errno) { return v.combined(w, rational.Sub) }

func (v vector) times(c api.Num) (vector, api.Errno) {
	return v.combined(vector{c, c, c}, rational.Mul)
}

func (v vector) dot(w vector) (api.Num, api.Errno) {
	products, e := v.combined(w, rational.Mul)
	if e != api.OK {
		return "", e
	}
	return rational.Sum(products[:])
}

func (v vector) cross(w vector) (vector, api.Errno) { return made(pair{v, w}.turned) }

// pair is two vectors that are multiplied.
type pair [2]vector

// turned is a coordinate of the cross product: it is made of the two others,
// which follow each other in a circle.
func (p pair) turned(i int) (api.Num, api.Errno) {
	j, k := (i+1)%3, (i+2)%3
	first, e := rational.Mul(p[0][j], p[1][k])
	if e != api.OK {
		return "", e
	}
	second, e := rational.Mul(p[0][k], p[1][j])
	if e != api.OK {
		return "", e
	}
	return rational.Sub(first, second)
}

func (v vector) length() (api.Surd, api.Errno) {
	square, e := v.dot(v)
	if e != api.OK {
		return nil, e
	}
	c, n, e := root.Normal(square)
	if e != api.OK || c == "0" {
		return nil, e
	}
	s := api.Surd{{Coef: c, Root: n}}
	if e := surd.Check(s); e != api.OK {
		return nil, e
	}
	return s, api.OK
}

// compare finds the order of the first coordinates that differ.
func (v vector) compare(w vector) (int, api.Errno) {
	for i := range v {
		if order, e := rational.Compare(v[i], w[i]); e != api.OK || order != 0 {
			return order, e
		}
	}
	return 0, api.OK
}
