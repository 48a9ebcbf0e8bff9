// Package whole calculates with integers of any size. It is layer 2: see shared/doc/02-whole.md.
//
// Its results are specified for right integers, and they are the same for canonical ones with more digits, as results can have them. Strings that are not canonical are no integers: functions with an error return ErrNumber for them, and the others, if they notice, zero values.
package whole

import (
	"cmp"
	"math"
	"strconv"
	"strings"

	"schisma/api"
	"schisma/decimal"
)

// maxPower limits the number of digits of an integer times the exponent of its power.
const maxPower = 4000

// Check returns the error of an integer that is not right.
func Check(a api.Int) api.Errno {
	if !canonical(a) || decimal.Digits(Abs(a)) > api.MaxDigits {
		return api.ErrNumber
	}
	return api.OK
}

// canonical reports whether a string is an integer in canonical form, however long.
func canonical(a api.Int) bool {
	negative, magnitude := split(a)
	return decimal.Canonical(magnitude) && !(negative && magnitude == "0")
}

// Of returns the integer that an int is.
func Of(n int) api.Int {
	return api.Int(strconv.Itoa(n))
}

// Small returns the int that an integer is, if it is one.
func Small(a api.Int) (n int, is bool) {
	negative, magnitude := split(a)
	m, is := decimal.Small(magnitude)
	switch {
	case !is:
		return 0, false
	case m <= math.MaxInt64 && negative:
		return -int(m), true
	case m <= math.MaxInt64:
		return int(m), true
	case m == -math.MinInt64 && negative:
		return math.MinInt64, true
	}
	return 0, false
}

// Parse returns the integer of a text.
func Parse(s string) (api.Int, api.Errno) {
	if s == "" {
		return "", api.ErrEmpty
	}
	negative, digits := split(api.Int(s))
	if digits == "" {
		return "", api.ErrSyntax
	}
	for i := range len(digits) {
		if digits[i] < '0' || digits[i] > '9' {
			return "", api.ErrSyntax
		}
	}
	magnitude := api.Int(strings.TrimLeft(string(digits), "0"))
	switch {
	case magnitude == "":
		return "0", api.OK
	case decimal.Digits(magnitude) > api.MaxDigits:
		return "", api.ErrLimit
	}
	return signed(negative, magnitude), api.OK
}

// split returns whether there is a minus sign, and what stands behind it.
func split(a api.Int) (negative bool, magnitude api.Int) {
	if len(a) > 0 && a[0] == '-' {
		return true, a[1:]
	}
	return false, a
}

// signed returns a magnitude with a minus sign, or without; 0 never has one.
func signed(negative bool, magnitude api.Int) api.Int {
	if negative && magnitude != "0" && magnitude != "" {
		return "-" + magnitude
	}
	return magnitude
}

// Sign returns -1, 0 or 1.
func Sign(a api.Int) int {
	switch {
	case a == "0" || a == "":
		return 0
	case a[0] == '-':
		return -1
	}
	return 1
}

// Compare returns the sign of the difference.
func Compare(a, b api.Int) int {
	sign := Sign(a)
	if sign != Sign(b) {
		return cmp.Compare(sign, Sign(b))
	}
	return sign * decimal.Compare(Abs(a), Abs(b))
}

// Neg returns the integer with the other sign.
func Neg(a api.Int) api.Int {
	negative, magnitude := split(a)
	return signed(!negative, magnitude)
}

// Abs returns the magnitude.
func Abs(a api.Int) api.Int {
	_, magnitude := split(a)
	return magnitude
}

// Gcd returns the greatest common divisor.
func Gcd(a, b api.Int) api.Int {
	return decimal.Gcd(Abs(a), Abs(b))
}

// Lcm returns the least common multiple.
func Lcm(a, b api.Int) api.Int {
	return decimal.Lcm(Abs(a), Abs(b))
}
