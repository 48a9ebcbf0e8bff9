package enclosure

import (
	"strings"

	"schisma/api"
	"schisma/number"
	"schisma/size"
)

// octave is the number of cents of an octave.
const octave = 1200

// Cents returns a size in hundredths of an equal semitone, rounded to some decimal places.
func Cents(p api.Primes, s api.Size, places int) (string, api.Errno) {
	rounded, _, e := cents(p, s, places)
	if e != api.OK {
		return "", e
	}
	return decimals(rounded, places), api.OK
}

// Narrow returns the least number of bits with which the rounded cents of a size are certain.
func Narrow(p api.Primes, s api.Size, places int) (int, api.Errno) {
	_, bits, e := cents(p, s, places)
	return bits, e
}

// cents returns the rounded cents of a size, times 10 to the power of places, and the least number of bits with which they are certain.
func cents(p api.Primes, s api.Size, places int) (rounded number.Number, bits int, e api.Errno) {
	if e := size.Check(p, s); e != api.OK {
		return number.Number{}, 0, e
	}
	if places < 0 || places > MaxPlaces {
		return number.Number{}, 0, api.ErrRange
	}
	unit := octave
	for range places {
		unit *= 10
	}
	return newCombination(p, s).round(number.Of(unit), MaxBits)
}

// round returns the integer nearest to a multiple of a size, and the least number of bits, up to a limit, with which it is certain.
func (c combination) round(multiple number.Number, limit int) (rounded number.Number, bits int, e api.Errno) {
	bits, found := c.least(limit, func(low, high number.Number, bits int) bool {
		denominator := c.denominator.Mul(power(bits))
		first := nearest(low.Mul(multiple), denominator)
		last := nearest(high.Mul(multiple), denominator)
		if first == last {
			rounded = first // which is the same for all enclosures that are narrow enough
		}
		return first == last
	})
	if !found {
		return number.Number{}, 0, api.ErrLimit
	}
	return rounded, bits, api.OK
}

// nearest returns the integer nearest to a fraction, the greater one of two.
func nearest(num, den number.Number) number.Number {
	two := number.Of(2)
	return num.Mul(two).Add(den).Quotient(den.Mul(two))
}

// decimals returns the text of an integer with so many of its digits behind a point.
func decimals(n number.Number, places int) string {
	digits := string(n.Abs().Int())
	digits = strings.Repeat("0", max(0, places+1-len(digits))) + digits
	point := len(digits) - places
	text := digits[:point]
	if places > 0 {
		text += "." + digits[point:]
	}
	if n.Sign() < 0 {
		return "-" + text
	}
	return text
}
