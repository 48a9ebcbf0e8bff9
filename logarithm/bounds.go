package logarithm

import "schisma/number"

// bounds are two integers between which a number lies, or to which it is equal.
type bounds struct{ low, high number.Number }

// add encloses the sum of two numbers.
func (b bounds) add(c bounds) bounds {
	return bounds{b.low.Add(c.low), b.high.Add(c.high)}
}

// neg encloses the negative.
func (b bounds) neg() bounds {
	return bounds{b.high.Neg(), b.low.Neg()}
}

// times encloses a multiple of a number.
func (b bounds) times(factor number.Number) bounds {
	if factor.Sign() < 0 {
		return bounds{b.high.Mul(factor), b.low.Mul(factor)}
	}
	return bounds{b.low.Mul(factor), b.high.Mul(factor)}
}

// half encloses half of a number.
func (b bounds) half() bounds {
	one, two := number.Of(1), number.Of(2)
	return bounds{b.low.Quotient(two), b.high.Add(one).Quotient(two)}
}

// quotient returns the quotients, divided downward, of the ends of two numbers, between which the quotient of these, divided downward, lies; the bounds of c are greater than 0.
func (b bounds) quotient(c bounds) bounds {
	least, greatest := c.high, c.low
	if b.low.Sign() < 0 {
		least = c.low
	}
	if b.high.Sign() < 0 {
		greatest = c.high
	}
	return bounds{b.low.Quotient(least), b.high.Quotient(greatest)}
}
