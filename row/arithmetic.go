package row

import "schisma/api"

// Add returns the sum.
func Add(a, b api.Row) (api.Row, api.Errno) {
	return plus(a, b, 1)
}

// Sub returns a less b.
func Sub(a, b api.Row) (api.Row, api.Errno) {
	return plus(a, b, -1)
}

// plus returns the sum of a and b, taken once or, with a negative sign, less once.
func plus(a, b api.Row, sign int) (api.Row, api.Errno) {
	if e := checkPair(a, b); e != api.OK {
		return nil, e
	}
	r := make(api.Row, 0, len(a))
	for m, n := range pairs(a, b) {
		r = append(r, m+sign*n)
	}
	return checked(r)
}

// Neg returns the negative.
func Neg(r api.Row) (api.Row, api.Errno) {
	return Scale(r, -1)
}

// Scale returns k times the row.
func Scale(r api.Row, k int) (api.Row, api.Errno) {
	if e := Check(r); e != api.OK {
		return nil, e
	}
	scaled := make(api.Row, len(r))
	if IsZero(r) {
		return scaled, api.OK
	}
	// With a greater factor the products could have no room.
	if !isEntry(k) {
		return nil, api.ErrLimit
	}
	for i, n := range r {
		scaled[i] = k * n
	}
	return checked(scaled)
}

// Combine returns the sum of rows, each times its factor.
func Combine(l []api.Row, factors api.Row) (api.Row, api.Errno) {
	if len(l) == 0 {
		return nil, api.ErrEmpty
	}
	if e := CheckAll(l, len(l[0])); e != api.OK {
		return nil, e
	}
	if e := Check(factors); e != api.OK {
		return nil, e
	}
	if len(factors) != len(l) {
		return nil, api.ErrSize
	}
	sums := make([]parts, len(l[0]))
	for i, r := range l {
		for j, n := range r {
			sums[j].add(factors[i] * n)
		}
	}
	r := make(api.Row, len(sums))
	for j, s := range sums {
		n, e := s.entry()
		if e != api.OK {
			return nil, e
		}
		r[j] = n
	}
	return r, api.OK
}

// Dot returns the sum of the products.
func Dot(a, b api.Row) (int, api.Errno) {
	if e := checkPair(a, b); e != api.OK {
		return 0, e
	}
	var sum parts
	for m, n := range pairs(a, b) {
		sum.add(m * n)
	}
	return sum.entry()
}

// Sum returns the sum of the absolute values.
func Sum(r api.Row) (int, api.Errno) {
	if e := Check(r); e != api.OK {
		return 0, e
	}
	var sum parts
	for _, n := range r {
		sum.add(magnitude(n))
	}
	return sum.entry()
}

// Max returns the greatest absolute value.
func Max(r api.Row) (int, api.Errno) {
	if e := Check(r); e != api.OK {
		return 0, e
	}
	greatest := 0
	for _, n := range r {
		greatest = max(greatest, magnitude(n))
	}
	return greatest, api.OK
}

// part is what is counted by the upper part of a sum.
const part = 1_000_000_000

// parts is a sum of products in two parts of nine digits: products of two elements fit in an int, but sums of them do not.
type parts struct{ upper, lower int }

// add adds a product of two elements.
func (p *parts) add(product int) {
	p.upper += product / part
	p.lower += product % part
}

// entry returns the sum. Error: ErrLimit if it is no element of a right row.
func (p parts) entry() (int, api.Errno) {
	upper, lower := p.upper+p.lower/part, p.lower%part
	// With two upper ones the sum is too great, even if the lower part has the other sign; with more it could have no room.
	if magnitude(upper) > 1 || !isEntry(upper*part+lower) {
		return 0, api.ErrLimit
	}
	return upper*part + lower, api.OK
}
