package fraction

import (
	"schisma/api"
	"schisma/whole"
)

// Floor returns the greatest integer not greater than x.
func Floor(x api.Rational) api.Int {
	floor, _, _ := whole.DivMod(x.Num, x.Den)
	return floor
}

// Ceil returns the least integer not less than x.
func Ceil(x api.Rational) api.Int {
	return whole.Neg(Floor(Neg(x)))
}

// Nearest returns the nearest integer, the greater one of two.
func Nearest(x api.Rational) api.Int {
	// The floor of x plus 1/2, over twice the denominator.
	double := whole.Add(x.Den, x.Den)
	nearest, _, _ := whole.DivMod(whole.Sum(x.Num, x.Num, x.Den), double)
	return nearest
}

// Round returns the multiple of 1 / grid that is nearest to x, the greater one of two.
func Round(x api.Rational, grid int) (api.Rational, api.Errno) {
	if grid < 1 || grid > MaxGrid {
		return api.Rational{}, api.ErrRange
	}
	steps := whole.Of(grid)
	scaled := api.Rational{Num: whole.Mul(x.Num, steps), Den: x.Den}
	return New(Nearest(scaled), steps)
}

// Rest returns x less its floor.
func Rest(x api.Rational) api.Rational {
	_, rest, e := whole.DivMod(x.Num, x.Den)
	if e != api.OK {
		return api.Rational{}
	}
	return api.Rational{Num: rest, Den: x.Den} // in lowest terms, as a multiple of Den less than Num is
}
