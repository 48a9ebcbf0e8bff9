package size

import (
	"slices"

	"schisma/api"
	"schisma/fraction"
	"schisma/logarithm"
	"schisma/number"
)

// Sign returns -1, 0 or 1, as the size is less than, equal to, or greater than 0.
func Sign(p api.Primes, a api.Size) (int, api.Errno) {
	if e := check(p, a); e != api.OK {
		return 0, e
	}
	return logarithm.Sign(p, numerators(a)[0]), api.OK
}

// Compare returns the sign of a less b.
func Compare(p api.Primes, a, b api.Size) (int, api.Errno) {
	if e := check(p, a, b); e != api.OK {
		return 0, e
	}
	return compare(p, a, b), api.OK
}

// compare does so with sizes that are right.
func compare(p api.Primes, a, b api.Size) int {
	rows := numerators(a, b)
	return logarithm.Sign(p, number.Combine(rows[0], rows[1], number.Number.Sub))
}

// numerators returns those of sizes over one denominator of all of them, which neither signs nor quotients depend on.
func numerators(l ...api.Size) []number.Row {
	rows, _ := number.Common(l...)
	return rows
}

// Abs returns the size or its negative, the one that is at least 0.
func Abs(p api.Primes, a api.Size) (api.Size, api.Errno) {
	sign, e := Sign(p, a)
	if e != api.OK {
		return nil, e
	}
	if sign >= 0 {
		return slices.Clone(a), api.OK
	}
	s := make(api.Size, len(a))
	for i, x := range a {
		s[i] = fraction.Neg(x)
	}
	return s, api.OK
}

// Floor returns the greatest integer that is not greater than the quotient of a and b.
func Floor(p api.Primes, a, b api.Size) (api.Int, api.Errno) {
	return floor(p, a, b, func(a, b number.Row) (above, below number.Row) { return a, b })
}

// Round returns the greatest integer that is not greater than the quotient of a and b, plus 1/2: that of 2 a + b and 2 b.
func Round(p api.Primes, a, b api.Size) (api.Int, api.Errno) {
	return floor(p, a, b, func(a, b number.Row) (above, below number.Row) {
		below = number.Combine(b, b, number.Number.Add)
		above = number.Combine(a, a, number.Number.Add)
		return number.Combine(above, b, number.Number.Add), below
	})
}

// floor returns the greatest integer that is not greater than a quotient, which a function makes of a and b.
func floor(p api.Primes, a, b api.Size, of func(a, b number.Row) (above, below number.Row)) (api.Int, api.Errno) {
	if e := check(p, a, b); e != api.OK {
		return "", e
	}
	rows := numerators(a, b)
	if rows[1].Pivot() < 0 {
		return "", api.ErrZero
	}
	above, below := of(rows[0], rows[1])
	return logarithm.Floor(p, above, below).Int(), api.OK
}

// Sort returns the indices of sizes in increasing order of these.
func Sort(p api.Primes, l []api.Size) ([]int, api.Errno) {
	if e := check(p, l...); e != api.OK {
		return nil, e
	}
	order := make([]int, len(l))
	for i := range order {
		order[i] = i
	}
	slices.SortStableFunc(order, func(i, j int) int { return compare(p, l[i], l[j]) })
	return order, api.OK
}
