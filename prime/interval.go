package prime

import (
	"slices"

	"schisma/api"
	"schisma/fraction"
	"schisma/number"
	"schisma/whole"
)

// Factor returns the interval with a fraction.
func Factor(p api.Primes, x api.Rational) (api.Row, api.Errno) {
	if e := checkFraction(p, x); e != api.OK {
		return nil, e
	}
	if fraction.Sign(x) <= 0 {
		return nil, api.ErrRange
	}
	r, smooth := exponents(p, x)
	if !smooth {
		return nil, api.ErrPrime
	}
	if !areExponents(r) {
		return nil, api.ErrLimit
	}
	return r, api.OK
}

// Smooth reports whether a fraction is the product of powers of the primes of a list, however great these are.
func Smooth(p api.Primes, x api.Rational) (bool, api.Errno) {
	if e := checkFraction(p, x); e != api.OK {
		return false, e
	}
	if fraction.Sign(x) <= 0 {
		return false, api.OK
	}
	_, smooth := exponents(p, x)
	return smooth, api.OK
}

// Value returns the fraction of an interval.
func Value(p api.Primes, x api.Row) (api.Rational, api.Errno) {
	if e := Check(p); e != api.OK {
		return api.Rational{}, e
	}
	if e := checkRow(p, x); e != api.OK {
		return api.Rational{}, e
	}
	sides := number.Sides(p, x)
	for _, side := range sides {
		if whole.Check(side) != api.OK {
			return api.Rational{}, api.ErrLimit
		}
	}
	return api.Rational{Num: sides[0], Den: sides[1]}, api.OK
}

// Embed returns the interval over q that has the same fraction as x over p.
func Embed(p, q api.Primes, x api.Row) (api.Row, api.Errno) {
	r, e := Restrict(p, q, x)
	if e != api.OK {
		return nil, e
	}
	for i, n := range x {
		if n != 0 && !slices.Contains(q, p[i]) {
			return nil, api.ErrPrime
		}
	}
	return r, api.OK
}

// Restrict returns the interval over q with the exponents that x has over p.
func Restrict(p, q api.Primes, x api.Row) (api.Row, api.Errno) {
	if e := checkBoth(p, q); e != api.OK {
		return nil, e
	}
	if e := checkRow(p, x); e != api.OK {
		return nil, e
	}
	r := make(api.Row, len(q))
	for i, n := range q {
		if at, is := Index(p, n); is {
			r[i] = x[at]
		}
	}
	return r, api.OK
}

// exponents returns those of a fraction greater than 0, however great they are, and whether there is no other prime in it.
func exponents(p api.Primes, x api.Rational) (r api.Row, smooth bool) {
	num, den := number.From(x.Num), number.From(x.Den)
	r = make(api.Row, len(p))
	for i, n := range p {
		var above, below int
		num, above = takeOut(num, number.Of(n))
		den, below = takeOut(den, number.Of(n))
		r[i] = above - below
	}
	one := number.Of(1)
	return r, num == one && den == one
}

// takeOut divides a number greater than 0 as often as possible, and returns what is left, and how often. It takes out the square first, so that great powers need few divisions.
func takeOut(n, divisor number.Number) (rest number.Number, times int) {
	quotient, remainder := n.DivMod(divisor)
	if !remainder.IsZero() {
		return n, 0
	}
	rest, squares := takeOut(quotient, divisor.Mul(divisor))
	times = 1 + 2*squares
	if quotient, remainder = rest.DivMod(divisor); remainder.IsZero() {
		return quotient, times + 1
	}
	return rest, times
}

// checkFraction returns the error of a list and a fraction.
func checkFraction(p api.Primes, x api.Rational) api.Errno {
	if e := Check(p); e != api.OK {
		return e
	}
	return fraction.Check(x)
}

// checkRow returns the error of an interval over a right list.
func checkRow(p api.Primes, x api.Row) api.Errno {
	if len(x) != len(p) {
		return api.ErrSize
	}
	if !areExponents(x) {
		return api.ErrLimit
	}
	return api.OK
}

// areExponents reports whether a right interval can have the exponents.
func areExponents(x api.Row) bool {
	return !slices.ContainsFunc(x, func(n int) bool { return n < -api.MaxExponent || n > api.MaxExponent })
}
