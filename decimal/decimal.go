// Package decimal calculates with natural numbers in decimal digits. It is layer 1: see shared/doc/01-decimal.md.
//
// Its results are specified for numbers in canonical form. Strings that are not in it are no numbers: functions with an error return ErrNumber for them, and the others, if they notice, zero values.
package decimal

import (
	"cmp"
	"math/bits"
	"strconv"
	"strings"

	"schisma/api"
)

// MaxPower is the greatest number of digits of a power.
const MaxPower = 20000

// Canonical reports whether a string is a natural number in canonical form.
func Canonical(x api.Int) bool {
	if !begins(x) {
		return false
	}
	for i := range len(x) {
		if x[i] < '0' || x[i] > '9' {
			return false
		}
	}
	return true
}

// begins reports whether a string has a first byte, and no superfluous 0 there.
func begins(x api.Int) bool {
	return x == "0" || len(x) > 0 && x[0] != '0'
}

// Check returns the error of a number that is not right.
func Check(x api.Int) api.Errno {
	if len(x) > api.MaxDigits || !Canonical(x) {
		return api.ErrNumber
	}
	return api.OK
}

// Of returns the digits of a number.
func Of(n uint64) api.Int {
	return api.Int(strconv.FormatUint(n, 10))
}

// Small returns the value of a number that fits in 64 bits.
func Small(x api.Int) (uint64, bool) {
	const longest = 20 // digits of the greatest number of 64 bits
	if len(x) > longest || !Canonical(x) {
		return 0, false
	}
	n, err := strconv.ParseUint(string(x), 10, 64)
	if err != nil {
		return 0, false
	}
	return n, true
}

// bothSmall returns the values of two numbers that fit in 64 bits.
func bothSmall(a, b api.Int) (m, n uint64, small bool) {
	m, first := Small(a)
	if !first {
		return 0, 0, false
	}
	n, second := Small(b)
	return m, n, second
}

// Compare returns -1, 0 or 1, as a is less than, equal to, or greater than b.
func Compare(a, b api.Int) int {
	if len(a) != len(b) {
		return cmp.Compare(len(a), len(b))
	}
	return strings.Compare(string(a), string(b))
}

// Digits returns the number of decimal digits.
func Digits(x api.Int) int {
	return len(x)
}

// Bits returns the number of binary digits.
func Bits(x api.Int) int {
	if n, small := Small(x); small {
		return bits.Len64(n)
	}
	p, ok := cut(x)
	if !ok {
		return 0
	}
	return p.bitLength()
}

// Add returns the sum.
func Add(a, b api.Int) api.Int {
	if m, n, small := bothSmall(a, b); small {
		if sum, carry := bits.Add64(m, n, 0); carry == 0 {
			return Of(sum)
		}
	}
	p, q, ok := cutBoth(a, b)
	if !ok {
		return ""
	}
	return join(add(p, q))
}

// Sub returns the difference.
func Sub(a, b api.Int) (api.Int, api.Errno) {
	if m, n, small := bothSmall(a, b); small && m >= n {
		return Of(m - n), api.OK
	}
	p, q, ok := cutBoth(a, b)
	if !ok {
		return "", api.ErrNumber
	}
	if Compare(a, b) < 0 {
		return "", api.ErrRange
	}
	return join(subtract(p, q)), api.OK
}

// Mul returns the product.
func Mul(a, b api.Int) api.Int {
	if m, n, small := bothSmall(a, b); small {
		if high, low := bits.Mul64(m, n); high == 0 {
			return Of(low)
		}
	}
	p, q, ok := cutBoth(a, b)
	if !ok {
		return ""
	}
	return join(multiply(p, q))
}

// DivMod returns the quotient and what is left.
func DivMod(a, b api.Int) (quotient, rest api.Int, e api.Errno) {
	if m, n, small := bothSmall(a, b); small && n != 0 {
		return Of(m / n), Of(m % n), api.OK
	}
	p, q, ok := cutBoth(a, b)
	if !ok {
		return "", "", api.ErrNumber
	}
	if len(q) == 0 {
		return "", "", api.ErrZero
	}
	times, left := divide(p, q)
	return join(times), join(left), api.OK
}

// Power returns a to the power n.
func Power(a api.Int, n int) (api.Int, api.Errno) {
	switch {
	case n < 0:
		return "", api.ErrRange
	case !Canonical(a):
		return "", api.ErrNumber
	case n == 0:
		return "1", api.OK
	case len(a) > MaxPower:
		return "", api.ErrLimit
	}
	// The exponent is read from its highest binary digit on: so no power on the way is longer than the result, and the first one that is too long decides.
	power := a
	for bit := bits.Len(uint(n)) - 2; bit >= 0; bit-- {
		power = Mul(power, power)
		if n>>bit&1 == 1 {
			power = Mul(power, a)
		}
		if len(power) > MaxPower {
			return "", api.ErrLimit
		}
	}
	return power, api.OK
}

// Gcd returns the greatest common divisor.
func Gcd(a, b api.Int) api.Int {
	if m, n, small := bothSmall(a, b); small {
		return Of(smallGcd(m, n))
	}
	p, q, ok := cutBoth(a, b)
	if !ok {
		return ""
	}
	return join(gcd(p, q))
}

// Lcm returns the least common multiple.
func Lcm(a, b api.Int) api.Int {
	if a == "0" || b == "0" {
		return "0"
	}
	part, _, e := DivMod(a, Gcd(a, b))
	if e != api.OK {
		return ""
	}
	return Mul(part, b)
}
