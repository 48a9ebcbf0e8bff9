package monzo

import (
	"slices"

	"schisma/api"
	"schisma/number"
	"schisma/whole"
)

// Product returns numerator times denominator.
func Product(p api.Primes, x api.Row) (api.Int, api.Errno) {
	return height(p, x, whole.Mul)
}

// Greater returns the greater one of numerator and denominator.
func Greater(p api.Primes, x api.Row) (api.Int, api.Errno) {
	return height(p, x, greater)
}

// Odd returns the greater one of the greatest odd divisors of numerator and denominator.
func Odd(p api.Primes, x api.Row) (api.Int, api.Errno) {
	if e := Check(p, x); e != api.OK {
		return "", e
	}
	odd := slices.Clone(x)
	if p[0] == 2 {
		odd[0] = 0
	}
	return height(p, odd, greater)
}

// Superparticular reports whether the numerator is the denominator plus 1.
func Superparticular(p api.Primes, x api.Row) (bool, api.Errno) {
	if e := Check(p, x); e != api.OK {
		return false, e
	}
	sides := number.Sides(p, x)
	return sides[0] == whole.Add(sides[1], "1"), api.OK
}

// height returns what a function makes of both sides of the fraction of an interval.
func height(p api.Primes, x api.Row, of func(a, b api.Int) api.Int) (api.Int, api.Errno) {
	if e := Check(p, x); e != api.OK {
		return "", e
	}
	sides := number.Sides(p, x)
	// A longer side makes every height too long, and need not be multiplied.
	for _, side := range sides {
		if whole.Check(side) != api.OK {
			return "", api.ErrLimit
		}
	}
	h := of(sides[0], sides[1])
	if whole.Check(h) != api.OK {
		return "", api.ErrLimit
	}
	return h, api.OK
}

// greater returns the greater one of two integers.
func greater(a, b api.Int) api.Int {
	if whole.Compare(a, b) < 0 {
		return b
	}
	return a
}
