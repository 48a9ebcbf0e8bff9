// Package number contains integers of any size that are kept as ints where these have room. The layers that calculate with matrices, from layer 6 on, use it: nearly all of their numbers are short, but those on the way can be long.
package number

import (
	"math"
	"math/bits"

	"schisma/api"
	"schisma/whole"
)

// Number is an integer. The zero value is 0, and equal numbers are equal by ==.
type Number struct {
	short int     // 0 if the number is long; never the least int, so that each one has a negative
	long  api.Int // empty if the number is short
}

// Of returns the number that an int is.
func Of(n int) Number {
	if n == math.MinInt {
		return Number{long: whole.Of(n)}
	}
	return Number{short: n}
}

// From returns the number of a canonical integer.
func From(a api.Int) Number {
	if n, is := whole.Small(a); is {
		return Of(n)
	}
	return Number{long: a}
}

// Int returns the digits.
func (a Number) Int() api.Int {
	if a.long != "" {
		return a.long
	}
	return whole.Of(a.short)
}

// Entry returns the int of a number that can be an element of a row.
func (a Number) Entry() (n int, is bool) {
	if a.long != "" || a.short > api.MaxEntry || a.short < -api.MaxEntry {
		return 0, false
	}
	return a.short, true
}

// Check returns ErrNumber if a number has more digits than a right integer.
func (a Number) Check() api.Errno {
	if a.long == "" {
		return api.OK
	}
	return whole.Check(a.long)
}

// Sign returns -1, 0 or 1.
func (a Number) Sign() int {
	switch {
	case a.long != "":
		return whole.Sign(a.long)
	case a.short < 0:
		return -1
	case a.short > 0:
		return 1
	}
	return 0
}

// IsZero reports whether a number is 0.
func (a Number) IsZero() bool {
	return a == Number{}
}

// Neg returns the negative.
func (a Number) Neg() Number {
	if a.long != "" {
		return From(whole.Neg(a.long))
	}
	return Number{short: -a.short}
}

// Abs returns the absolute value.
func (a Number) Abs() Number {
	if a.Sign() < 0 {
		return a.Neg()
	}
	return a
}

// Add returns the sum.
func (a Number) Add(b Number) Number {
	if areShort(a, b) {
		sum := a.short + b.short
		if overflown := (a.short^sum)&(b.short^sum) < 0; !overflown {
			return Of(sum)
		}
	}
	return From(whole.Add(a.Int(), b.Int()))
}

// Sub returns a less b.
func (a Number) Sub(b Number) Number {
	return a.Add(b.Neg())
}

// Mul returns the product.
func (a Number) Mul(b Number) Number {
	if areShort(a, b) {
		high, low := bits.Mul(magnitude(a.short), magnitude(b.short))
		if high == 0 && low <= math.MaxInt {
			return Number{short: a.short * b.short}
		}
	}
	return From(whole.Mul(a.Int(), b.Int()))
}

// areShort reports whether both numbers are ints.
func areShort(a, b Number) bool {
	return a.long == "" && b.long == ""
}

// magnitude returns an int, which is not the least one, without its sign.
func magnitude(n int) uint {
	return uint(max(n, -n))
}
