// Package fraction calculates with fractions of integers of any size. It is layer 3: see shared/doc/03-fraction.md.
//
// Its results are specified for fractions of canonical integers, however long, in lowest terms. Nothing is said of others, but that functions return.
package fraction

import (
	"schisma/api"
	"schisma/whole"
)

// MaxGrid is the greatest denominator of Round.
const MaxGrid = 1_000_000

// Check returns the error of a fraction that is not right.
func Check(x api.Rational) api.Errno {
	right := whole.Check(x.Num) == api.OK && whole.Check(x.Den) == api.OK
	if !right || whole.Sign(x.Den) <= 0 || whole.Gcd(x.Num, x.Den) != "1" {
		return api.ErrNumber
	}
	return api.OK
}

// New returns num divided by den.
func New(num, den api.Int) (api.Rational, api.Errno) {
	if den == "0" {
		return api.Rational{}, api.ErrZero
	}
	if whole.Sign(den) < 0 {
		num, den = whole.Neg(num), whole.Neg(den)
	}
	return lowest(num, den)
}

// Of returns num divided by den.
func Of(num, den int) (api.Rational, api.Errno) {
	return New(whole.Of(num), whole.Of(den))
}

// Small returns the ints of a fraction, if both have at most 18 digits.
func Small(x api.Rational) (num, den int, is bool) {
	r, is := few(x)
	return r.num, r.den, is
}

// Compare returns -1, 0 or 1, as a is less than, equal to, or greater than b.
func Compare(a, b api.Rational) int {
	return either(a, b, compareFew, func() int {
		return whole.Compare(whole.Mul(a.Num, b.Den), whole.Mul(b.Num, a.Den))
	})
}

// Sign returns -1, 0 or 1, as x is less than, equal to, or greater than 0.
func Sign(x api.Rational) int {
	return whole.Sign(x.Num)
}

// Min returns the lesser one of two fractions.
func Min(a, b api.Rational) api.Rational {
	if Compare(b, a) < 0 {
		return b
	}
	return a
}

// Max returns the greater one of two fractions.
func Max(a, b api.Rational) api.Rational {
	if Compare(b, a) > 0 {
		return b
	}
	return a
}

// Add returns the sum.
func Add(a, b api.Rational) api.Rational {
	return either(a, b, addFew, func() api.Rational {
		num := whole.Add(whole.Mul(a.Num, b.Den), whole.Mul(b.Num, a.Den))
		x, _ := lowest(num, whole.Mul(a.Den, b.Den))
		return x
	})
}

// Sub returns a less b.
func Sub(a, b api.Rational) api.Rational {
	return Add(a, Neg(b))
}

// Mul returns the product.
func Mul(a, b api.Rational) api.Rational {
	return either(a, b, multiplyFew, func() api.Rational {
		x, _ := lowest(whole.Mul(a.Num, b.Num), whole.Mul(a.Den, b.Den))
		return x
	})
}

// Div returns the quotient.
func Div(a, b api.Rational) (api.Rational, api.Errno) {
	sign := Sign(b)
	if sign == 0 {
		return api.Rational{}, api.ErrZero
	}
	inverse := api.Rational{Num: b.Den, Den: whole.Abs(b.Num)}
	if sign < 0 {
		inverse = Neg(inverse)
	}
	return Mul(a, inverse), api.OK
}

// Neg returns the negative.
func Neg(x api.Rational) api.Rational {
	return api.Rational{Num: whole.Neg(x.Num), Den: x.Den}
}

// Abs returns the magnitude.
func Abs(x api.Rational) api.Rational {
	return api.Rational{Num: whole.Abs(x.Num), Den: x.Den}
}

// Sum returns the sum of a list. Its halves are added, so that few of the sums on the way are long.
func Sum(l []api.Rational) api.Rational {
	if half := len(l) / 2; half > 1 {
		return Add(Sum(l[:half]), Sum(l[half:]))
	}
	total := api.Rational{Num: "0", Den: "1"}
	for _, x := range l {
		total = Add(total, x)
	}
	return total
}
