package fraction

import (
	"cmp"
	"math/bits"

	"schisma/api"
	"schisma/whole"
)

const (
	limit = 1_000_000_000_000_000_000 // the least magnitude with more than 18 digits
	room  = 1 << 62                   // sums of two lesser magnitudes fit in an int
)

// ratio is a fraction of machine integers; den is greater than 0.
type ratio struct{ num, den int }

// few returns a fraction whose integers have at most 18 digits.
func few(x api.Rational) (ratio, bool) {
	num, first := whole.Small(x.Num)
	den, second := whole.Small(x.Den)
	if !first || !second || num <= -limit || num >= limit || den <= 0 || den >= limit {
		return ratio{}, false
	}
	return ratio{num, den}, true
}

// either returns what quick makes of two fractions of few digits, or what long makes of others, and of those that leave quick no room for its result.
func either[T any](a, b api.Rational, quick func(a, b ratio) (T, bool), long func() T) T {
	p, first := few(a)
	q, second := few(b)
	if first && second {
		if result, fits := quick(p, q); fits {
			return result
		}
	}
	return long()
}

// compareFew returns the sign of the difference.
func compareFew(a, b ratio) (int, bool) {
	sign := cmp.Compare(a.num, 0)
	if other := cmp.Compare(b.num, 0); sign != other {
		return cmp.Compare(sign, other), true
	}
	high, low := bits.Mul64(magnitude(a.num), uint64(b.den))
	otherHigh, otherLow := bits.Mul64(magnitude(b.num), uint64(a.den))
	return sign * cmp.Or(cmp.Compare(high, otherHigh), cmp.Compare(low, otherLow)), true
}

// addFew returns the sum.
func addFew(a, b ratio) (api.Rational, bool) {
	left, first := times(a.num, b.den)
	right, second := times(b.num, a.den)
	den, third := times(a.den, b.den)
	if !first || !second || !third {
		return api.Rational{}, false
	}
	return lowestFew(left+right, den), true
}

// multiplyFew returns the product.
func multiplyFew(a, b ratio) (api.Rational, bool) {
	num, first := times(a.num, b.num)
	den, second := times(a.den, b.den)
	if !first || !second {
		return api.Rational{}, false
	}
	return lowestFew(num, den), true
}

// times returns the product of two ints, if there is room for it, and for its sum with another one.
func times(m, n int) (product int, fits bool) {
	high, low := bits.Mul64(magnitude(m), magnitude(n))
	return m * n, high == 0 && low < room
}

// magnitude returns an int without its sign.
func magnitude(n int) uint64 {
	return uint64(max(n, -n))
}

// lowestFew returns the fraction of two ints in lowest terms; den is greater than 0.
func lowestFew(num, den int) api.Rational {
	divisor, rest := den, num%den
	for rest != 0 {
		divisor, rest = rest, divisor%rest
	}
	divisor = max(divisor, -divisor)
	return api.Rational{Num: whole.Of(num / divisor), Den: whole.Of(den / divisor)}
}

// lowest returns the fraction of two integers in lowest terms; den is greater than 0.
func lowest(num, den api.Int) (api.Rational, api.Errno) {
	if r, is := few(api.Rational{Num: num, Den: den}); is {
		return lowestFew(r.num, r.den), api.OK
	}
	divisor := whole.Gcd(num, den)
	top, _, first := whole.DivMod(num, divisor)
	bottom, _, second := whole.DivMod(den, divisor)
	if first != api.OK || second != api.OK {
		return api.Rational{}, api.ErrNumber
	}
	return api.Rational{Num: top, Den: bottom}, api.OK
}
