package enclosure

import (
	"sort"

	"schisma/api"
	"schisma/number"
	"schisma/whole"
)

// firstBits is the number of bits with which most comparisons are decided; if they are not, it is doubled.
const firstBits = 50

// combination is a size without the coefficients that are 0: the sum of factors times the binary logarithms of primes, divided by a denominator.
type combination struct {
	primes      []int
	factors     number.Row
	denominator number.Number
}

// newCombination returns what a right size is.
func newCombination(p api.Primes, s api.Size) combination {
	rows, denominator := number.Common(s)
	c := combination{denominator: denominator}
	for i, factor := range rows[0] {
		if !factor.IsZero() {
			c.primes = append(c.primes, p[i])
			c.factors = append(c.factors, factor)
		}
	}
	return c
}

// lows returns those of the bounds of all primes.
func (c combination) lows(bits int) number.Row {
	lows := make(number.Row, len(c.primes))
	for i, prime := range c.primes {
		lows[i] = lowOf(prime, bits)
	}
	return lows
}

// ends returns both ends of the enclosure with some lows, times the denominator, and times 2 to the power of their bits.
func (c combination) ends(lows number.Row) (low, high number.Number) {
	for i, factor := range c.factors {
		least := lows[i].Mul(factor)
		greatest := least
		if c.primes[i] != 2 {
			greatest = least.Add(factor)
		}
		if factor.Sign() < 0 {
			least, greatest = greatest, least
		}
		low, high = low.Add(least), high.Add(greatest)
	}
	return low, high
}

// least returns the least number of bits, up to a limit, whose enclosure is enough, if there is one. With more bits every narrower one must be enough, too.
func (c combination) least(limit int, enough func(low, high number.Number, bits int) bool) (bits int, found bool) {
	for most := min(firstBits, limit); ; most = min(2*most, limit) {
		lows := c.lows(most)
		bits := sort.Search(most+1, func(bits int) bool {
			low, high := c.ends(shorten(lows, most-bits))
			return enough(low, high, bits)
		})
		if bits <= most {
			return bits, true
		}
		if most == limit {
			return 0, false
		}
	}
}

// shorten returns lows with so many bits less.
func shorten(lows number.Row, bits int) number.Row {
	divisor := power(bits)
	short := make(number.Row, len(lows))
	for i, n := range lows {
		short[i] = n.Quotient(divisor)
	}
	return short
}

// power returns 2 to a power.
func power(exponent int) number.Number {
	n, _ := whole.Power("2", exponent)
	return number.From(n)
}
