package wedge

import (
	"schisma/api"
	"schisma/number"
	"schisma/row"
)

// Product returns the wedge product of two products.
func Product(a, b Multi) (Multi, api.Errno) {
	if e := Check(a); e != api.OK {
		return Multi{}, e
	}
	if e := Check(b); e != api.OK {
		return Multi{}, e
	}
	switch {
	case a.Dimension != b.Dimension:
		return Multi{}, api.ErrSize
	case a.Grade+b.Grade > a.Dimension:
		return Multi{}, api.ErrRange
	}
	p, e := times(vectorOf(a), vectorOf(b))
	if e != api.OK {
		return Multi{}, e
	}
	return p.multi(), api.OK
}

// times returns the wedge product; it has no coordinates if the grades add up to more than the dimension. Error: ErrNumber if a product of coordinates, or a sum of them, has too many digits.
func times(a, b vector) (vector, api.Errno) {
	p := zero(a.dimension, a.grade+b.grade)
	for s, m := range a.all() {
		for t, n := range b.all() {
			if s&t != 0 {
				continue
			}
			if e := p.add(s|t, signed(m.Mul(n), s, t)); e != api.OK {
				return vector{}, e
			}
		}
	}
	return p, p.check()
}

// Content returns the greatest common divisor of all coordinates.
func Content(x Multi) (api.Int, api.Errno) {
	if e := Check(x); e != api.OK {
		return "", e
	}
	return vectorOf(x).content().Int(), api.OK
}

// Canonical returns the product without its content, with a positive sign.
func Canonical(x Multi) (Multi, api.Errno) {
	if e := Check(x); e != api.OK {
		return Multi{}, e
	}
	return vectorOf(x).canonical().multi(), api.OK
}

// canonical returns the canonical form.
func (v vector) canonical() vector {
	first, found := v.first()
	if !found {
		return v
	}
	divisor := v.content()
	if v.coordinates[first].Sign() < 0 {
		divisor = divisor.Neg()
	}
	out := zero(v.dimension, v.grade)
	for s, a := range v.all() {
		out.coordinates[s] = a.Quotient(divisor)
	}
	return out
}

// Dual returns the product of the complements.
func Dual(x Multi) (Multi, api.Errno) {
	if e := Check(x); e != api.OK {
		return Multi{}, e
	}
	v := vectorOf(x)
	dual := zero(v.dimension, v.dimension-v.grade)
	everything := single(v.dimension) - 1
	for s, a := range v.all() {
		rest := everything &^ s
		dual.coordinates[rest] = signed(a, s, rest)
	}
	return dual.multi(), api.OK
}

// Interior returns the interior product with a row.
func Interior(x Multi, r api.Row) (Multi, api.Errno) {
	if e := Check(x); e != api.OK {
		return Multi{}, e
	}
	switch {
	case x.Grade == 0:
		return Multi{}, api.ErrRange
	case len(r) != x.Dimension:
		return Multi{}, api.ErrSize
	}
	if e := row.Check(r); e != api.OK {
		return Multi{}, e
	}
	p, e := interior(vectorOf(x), number.FromRow(r))
	if e != api.OK {
		return Multi{}, e
	}
	return p.multi(), api.OK
}

// interior returns the interior product of a product with a grade greater than 0. Error: ErrNumber if a product, or a sum, has too many digits.
func interior(v vector, r number.Row) (vector, api.Errno) {
	p := zero(v.dimension, v.grade-1)
	for s, a := range v.all() {
		for i := range s.indices() {
			rest := s &^ single(i)
			if e := p.add(rest, signed(r[i].Mul(a), single(i), rest)); e != api.OK {
				return vector{}, e
			}
		}
	}
	return p, p.check()
}
