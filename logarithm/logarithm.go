// Package logarithm compares sums of integers times logarithms of primes, exactly as real numbers. The layers that compare intervals and sizes use it, from layer 12 on.
//
// The base of the logarithms is of no importance, as neither signs nor quotients of such sums depend on it. Sums of different primes are 0 only if all integers are, because no number has two factorizations; so ever narrower bounds decide every comparison.
package logarithm

import (
	"schisma/api"
	"schisma/number"
)

// Sign returns the sign of the sum of factors times the logarithms of different primes.
func Sign(p api.Primes, factors number.Row) int {
	if isZero(factors) {
		return 0
	}
	sign := 0
refine:
	for log := range refinements() {
		total := sum(p, factors, log)
		switch {
		case total.low.Sign() > 0:
			sign = 1
			break refine
		case total.high.Sign() < 0:
			sign = -1
			break refine
		}
	}
	return sign
}

// Compare returns the sign of the difference of two such sums, whose factors are ints of at most 2 to the power 15, without the sign.
func Compare(p api.Primes, x, y api.Row) int {
	// The table in ints decides nearly always: the sum is too low by less than the factors greater than 0, or too high by less than the others.
	total, most := 0, 0
	for i, n := range p {
		difference := x[i] - y[i]
		total += difference * lows[n]
		most += max(difference, -difference)
	}
	switch {
	case most == 0:
		return 0
	case total >= most:
		return 1
	case total <= -most:
		return -1
	}
	return Sign(p, number.Combine(number.FromRow(x), number.FromRow(y), number.Number.Sub))
}

// Floor returns the greatest integer that is not greater than the quotient of two such sums; not all factors of b are 0.
func Floor(p api.Primes, a, b number.Row) number.Number {
	if floor, is := proportion(a, b); is {
		return floor
	}
	// Now the quotient is irrational, so that bounds that are narrow enough have no integer between them.
	var floor bounds
	for log := range refinements() {
		above, below := sum(p, a, log), sum(p, b, log)
		if below.high.Sign() < 0 {
			above, below = above.neg(), below.neg()
		}
		if below.low.Sign() <= 0 {
			continue
		}
		floor = above.quotient(below)
		if floor.low == floor.high {
			break
		}
	}
	return floor.low
}

// proportion returns the quotient of two sums, divided downward, if one is a rational multiple of the other one; not all factors of b are 0.
func proportion(a, b number.Row) (floor number.Number, is bool) {
	at := b.Pivot()
	for i, n := range a {
		if n.Mul(b[at]) != b[i].Mul(a[at]) {
			return number.Number{}, false
		}
	}
	return a[at].Quotient(b[at]), true
}

// sum encloses the sum of factors times the logarithms of primes.
func sum(p api.Primes, factors number.Row, log func(n int) bounds) bounds {
	var total bounds
	for i, factor := range factors {
		if !factor.IsZero() {
			total = total.add(log(p[i]).times(factor))
		}
	}
	return total
}

// isZero reports whether all factors are 0.
func isZero(factors number.Row) bool {
	return factors.Pivot() < 0
}
