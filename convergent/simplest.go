package convergent

import (
	"schisma/api"
	"schisma/fraction"
	"schisma/whole"
)

// Simplest returns the fraction with the least denominator of a range.
func Simplest(low, high api.Rational) (api.Rational, api.Errno) {
	if e := checkBoth(low, high); e != api.OK {
		return api.Rational{}, e
	}
	if fraction.Compare(low, high) > 0 {
		return api.Rational{}, api.ErrOrder
	}
	value := api.Rational{}
	for value = range beginnings(simplestTerms(low, high)) {
		// Only the last one is asked for.
	}
	return value, api.OK
}

// Mediant returns the sum of the numerators, divided by that of the denominators.
func Mediant(a, b api.Rational) (api.Rational, api.Errno) {
	if e := checkBoth(a, b); e != api.OK {
		return api.Rational{}, e
	}
	sums := ahead(a, b, "1")
	if !isRight(sums) {
		return api.Rational{}, api.ErrNumber
	}
	return fraction.New(sums.Num, sums.Den)
}

// checkBoth returns the error of two fractions.
func checkBoth(a, b api.Rational) api.Errno {
	if e := fraction.Check(a); e != api.OK {
		return e
	}
	return fraction.Check(b)
}

// simplestTerms returns the terms that the continued fractions of both ends have in common, and then the simplest integer between what remains of both.
func simplestTerms(low, high api.Rational) []api.Int {
	var terms []api.Int
	for {
		least, greatest := fraction.Ceil(low), fraction.Floor(high)
		if whole.Compare(least, greatest) <= 0 {
			return append(terms, nearestToZero(least, greatest))
		}
		// Both ends lie above the same integer, and their rests, turned over, are in the other order.
		terms = append(terms, greatest)
		low, high = turned(high), turned(low)
	}
}

// nearestToZero returns the integer of the least magnitude in a range.
func nearestToZero(least, greatest api.Int) api.Int {
	if whole.Sign(least) > 0 {
		return least
	}
	if whole.Sign(greatest) < 0 {
		return greatest
	}
	return "0"
}

// turned returns 1 divided by what a fraction is above its floor; it is no integer.
func turned(x api.Rational) api.Rational {
	_, rest, _ := whole.DivMod(x.Num, x.Den)
	return api.Rational{Num: x.Den, Den: rest}
}
