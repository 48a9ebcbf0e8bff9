package whole

import (
	"math"
	"math/bits"

	"schisma/api"
	"schisma/decimal"
)

// limit is the least magnitude with more than 18 digits. The sum of nine lesser ones fits in an int.
const limit = 1_000_000_000_000_000_000

// few returns the int of an integer with at most 18 digits.
func few(a api.Int) (int, bool) {
	const longest = 19 // 18 digits behind a minus sign
	if len(a) > longest {
		return 0, false
	}
	n, is := Small(a)
	return n, is && -limit < n && n < limit
}

// bothFew returns the ints of two integers with at most 18 digits.
func bothFew(a, b api.Int) (m, n int, are bool) {
	m, first := few(a)
	if !first {
		return 0, 0, false
	}
	n, second := few(b)
	return m, n, second
}

// Add returns the sum.
func Add(a, b api.Int) api.Int {
	if m, n, are := bothFew(a, b); are {
		return Of(m + n)
	}
	first, p := split(a)
	second, q := split(b)
	if first == second {
		return signed(first, decimal.Add(p, q))
	}
	if decimal.Compare(p, q) < 0 {
		first, p, q = second, q, p
	}
	difference, _ := decimal.Sub(p, q)
	return signed(first, difference)
}

// Sub returns a less b.
func Sub(a, b api.Int) api.Int {
	return Add(a, Neg(b))
}

// Mul returns the product.
func Mul(a, b api.Int) api.Int {
	if m, n, are := bothFew(a, b); are {
		if product, fits := times(m, n); fits {
			return Of(product)
		}
	}
	first, p := split(a)
	second, q := split(b)
	return signed(first != second, decimal.Mul(p, q))
}

// times returns the product of two ints, neither of which is the least one, if its magnitude fits in an int.
func times(m, n int) (product int, fits bool) {
	high, low := bits.Mul64(magnitude(m), magnitude(n))
	return m * n, high == 0 && low <= math.MaxInt64
}

// magnitude returns an int, which is not the least one, without its sign.
func magnitude(n int) uint64 {
	return uint64(max(n, -n))
}

// Sum returns the sum of some integers.
func Sum(l ...api.Int) api.Int {
	total, part := api.Int("0"), 0 // what is short is collected in part
	for _, a := range l {
		n, is := few(a)
		if !is {
			total = Add(total, a)
			continue
		}
		part += n
		if magnitude(part) >= limit {
			total, part = Add(total, Of(part)), 0
		}
	}
	return Add(total, Of(part))
}

// Power returns a to the power exponent.
func Power(a api.Int, exponent int) (api.Int, api.Errno) {
	negative, magnitude := split(a)
	digits := decimal.Digits(magnitude)
	switch {
	case exponent < 0:
		return "", api.ErrRange
	case digits == 0:
		return "", api.ErrNumber
	case exponent > maxPower/digits: // the product itself might not fit in an int
		return "", api.ErrLimit
	}
	power, e := decimal.Power(magnitude, exponent)
	return signed(negative && exponent%2 == 1, power), e
}

// DivMod divides downward.
func DivMod(a, b api.Int) (quotient, remainder api.Int, e api.Errno) {
	if m, n, are := bothFew(a, b); are && n != 0 {
		q, r := divideDown(m, n)
		return Of(q), Of(r), api.OK
	}
	first, p := split(a)
	second, q := split(b)
	quotient, remainder, e = decimal.DivMod(p, q)
	if e != api.OK {
		return "", "", e
	}
	if first != second && remainder != "0" {
		quotient = decimal.Add(quotient, "1")
		remainder, _ = decimal.Sub(q, remainder)
	}
	return signed(first != second, quotient), signed(second, remainder), api.OK
}

// divideDown divides ints downward; n is not 0.
func divideDown(m, n int) (quotient, remainder int) {
	quotient, remainder = m/n, m%n
	if remainder != 0 && (remainder < 0) != (n < 0) {
		return quotient - 1, remainder + n
	}
	return quotient, remainder
}
