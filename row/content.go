package row

import (
	"cmp"

	"schisma/api"
)

// Content returns the greatest common divisor of the elements.
func Content(r api.Row) (int, api.Errno) {
	if e := Check(r); e != api.OK {
		return 0, e
	}
	divisor := 0
	for _, n := range r {
		divisor = commonDivisor(divisor, n)
	}
	return divisor, api.OK
}

// Primitive returns the row divided by its content.
func Primitive(r api.Row) (api.Row, api.Errno) {
	content, e := Content(r)
	if e != api.OK {
		return nil, e
	}
	if content == 0 {
		return nil, api.ErrZero
	}
	primitive := make(api.Row, len(r))
	for i, n := range r {
		primitive[i] = n / content
	}
	return primitive, api.OK
}

// Normal returns the one of a row and its negative whose first element that is not 0 is positive.
func Normal(r api.Row) (api.Row, api.Errno) {
	for _, n := range r {
		if n != 0 {
			return Scale(r, cmp.Compare(n, 0))
		}
	}
	return Scale(r, 1)
}

// commonDivisor returns the greatest common divisor, which is not negative.
func commonDivisor(m, n int) int {
	for n != 0 {
		m, n = n, m%n
	}
	return magnitude(m)
}
