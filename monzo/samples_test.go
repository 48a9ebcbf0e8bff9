package monzo_test

import (
	"math"
	"math/big"
	"math/rand/v2"
	"slices"

	"schisma/api"
)

// lists returns right lists of primes.
func lists() []api.Primes {
	return []api.Primes{{2}, {3}, {97}, {2, 3}, {2, 3, 5}, {3, 5, 7}, {2, 5, 7}, {2, 3, 7, 11}, {2, 3, 5, 7, 11, 13}, {3, 5, 7, 11, 13, 17}, {71, 73, 79, 83, 89, 97}}
}

// wrongList is a list of primes with its error.
type wrongList struct {
	p api.Primes
	e api.Errno
}

// wrongLists returns lists that are not right.
func wrongLists() []wrongList {
	return []wrongList{
		{nil, api.ErrEmpty}, {api.Primes{2, 3, 5, 7, 11, 13, 17}, api.ErrLimit}, {make(api.Primes, 100), api.ErrLimit},
		{api.Primes{2, 4, 3}, api.ErrPrime}, {api.Primes{2, 3, 101}, api.ErrPrime}, {api.Primes{math.MinInt, 2, 3}, api.ErrPrime},
		{api.Primes{3, 2, 5}, api.ErrOrder}, {api.Primes{2, 2, 4}, api.ErrOrder},
	}
}

// wrongRow is a row that is no interval over a list of three primes, with its error.
type wrongRow struct {
	x api.Row
	e api.Errno
}

// wrongRows returns some of them.
func wrongRows() []wrongRow {
	return []wrongRow{
		{nil, api.ErrSize}, {api.Row{1, 2}, api.ErrSize}, {api.Row{0, 0, 0, 0}, api.ErrSize}, {api.Row{1001, 0}, api.ErrSize}, {make(api.Row, 100), api.ErrSize},
		{api.Row{1001, 0, 0}, api.ErrLimit}, {api.Row{0, -1001, 0}, api.ErrLimit}, {api.Row{0, 0, math.MinInt}, api.ErrLimit}, {api.Row{math.MaxInt, math.MinInt, 0}, api.ErrLimit}, {api.Row{0, api.MaxEntry + 1, 0}, api.ErrLimit},
	}
}

// rows returns intervals over n primes: zeros, units, those at the ends, and random ones of all sizes.
func rows(n int) []api.Row {
	r := rand.New(rand.NewPCG(12, uint64(n)))
	l := []api.Row{make(api.Row, n)}
	for i := range n {
		for _, k := range []int{1, -1, 2, 10, api.MaxExponent, -api.MaxExponent} {
			x := make(api.Row, n)
			x[i] = k
			l = append(l, x)
		}
	}
	for _, most := range []int{1, 3, 10, 100, 300, api.MaxExponent} {
		for range 5 {
			x := make(api.Row, n)
			for i := range x {
				x[i] = r.IntN(2*most+1) - most
			}
			l = append(l, x)
		}
	}
	return append(l, slices.Repeat(api.Row{api.MaxExponent}, n), slices.Repeat(api.Row{-api.MaxExponent}, n))
}

// standard returns the fraction of an interval, in the standard library.
func standard(p api.Primes, x api.Row) *big.Rat {
	sides := [2]*big.Int{big.NewInt(1), big.NewInt(1)}
	for i, n := range x {
		side := 0
		if n < 0 {
			side, n = 1, -n
		}
		sides[side].Mul(sides[side], new(big.Int).Exp(big.NewInt(int64(p[i])), big.NewInt(int64(n)), nil))
	}
	return new(big.Rat).SetFrac(sides[0], sides[1])
}

// isRight reports whether an integer has not too many digits, without the sign.
func isRight(n *big.Int) bool {
	return len(new(big.Int).Abs(n).String()) <= api.MaxDigits
}

// rational returns a fraction of the standard library, which is right.
func rational(x *big.Rat) api.Rational {
	return api.Rational{Num: api.Int(x.Num().String()), Den: api.Int(x.Denom().String())}
}

// combined returns a x + b y, and whether it is right.
func combined(a int, x api.Row, b int, y api.Row) (api.Row, bool) {
	z := make(api.Row, len(x))
	right := true
	for i := range x {
		z[i] = a*x[i] + b*y[i]
		right = right && -api.MaxExponent <= z[i] && z[i] <= api.MaxExponent
	}
	return z, right
}
