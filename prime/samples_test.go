package prime_test

import (
	"math"
	"math/big"
	"math/rand/v2"
	"slices"

	"schisma/api"
)

// lists returns right lists.
func lists() []api.Primes {
	return []api.Primes{
		{2}, {3}, {97}, {2, 3}, {2, 97}, {2, 3, 5}, {3, 5, 7}, {2, 3, 7, 11}, {2, 5, 7}, {2, 3, 5, 7, 11, 13}, {3, 5, 7, 11, 13, 17}, {73, 79, 83, 89, 97}, {71, 73, 79, 83, 89, 97},
	}
}

// wrongList is a list with its error.
type wrongList struct {
	p api.Primes
	e api.Errno
}

// wrongLists returns lists with the errors of Check, also such with several errors, of which the first one counts.
func wrongLists() []wrongList {
	return []wrongList{
		{nil, api.ErrEmpty},
		{api.Primes{}, api.ErrEmpty},
		{api.Primes{2, 3, 5, 7, 11, 13, 17}, api.ErrLimit},
		{api.Primes{4, 3, 3, 7, 11, 13, 0}, api.ErrLimit},
		{make(api.Primes, 1000), api.ErrLimit},
		{api.Primes{0}, api.ErrPrime},
		{api.Primes{1}, api.ErrPrime},
		{api.Primes{-2}, api.ErrPrime},
		{api.Primes{math.MinInt}, api.ErrPrime},
		{api.Primes{math.MaxInt}, api.ErrPrime},
		{api.Primes{101}, api.ErrPrime},
		{api.Primes{2, 3, 101}, api.ErrPrime},
		{api.Primes{2, 9, 11}, api.ErrPrime},
		{api.Primes{7, 6}, api.ErrPrime}, // neither prime nor in order
		{api.Primes{4, 3, 2}, api.ErrPrime},
		{api.Primes{3, 5, 9, 2}, api.ErrPrime},
		{api.Primes{3, 2}, api.ErrOrder},
		{api.Primes{2, 2}, api.ErrOrder},
		{api.Primes{2, 5, 3}, api.ErrOrder},
		{api.Primes{2, 5, 3, 9}, api.ErrOrder},
	}
}

// wrongFractions returns fractions that are not right.
func wrongFractions() []api.Rational {
	long := api.Int("1" + zeros(api.MaxDigits))
	return []api.Rational{{}, {Num: "2", Den: "4"}, {Num: "3", Den: "0"}, {Num: "0", Den: "2"}, {Num: "1", Den: "-2"}, {Num: "02", Den: "1"}, {Num: "x", Den: "1"}, {Num: long, Den: "1"}, {Num: "1", Den: long}, {Num: "-2", Den: "-3"}}
}

// wrongRow is a row that is no interval over a list of three primes, with its error.
type wrongRow struct {
	x api.Row
	e api.Errno
}

// wrongRows returns some of them.
func wrongRows() []wrongRow {
	return []wrongRow{
		{nil, api.ErrSize}, {api.Row{1, 2}, api.ErrSize}, {api.Row{1, 2, 3, 4}, api.ErrSize}, {api.Row{5000, 0}, api.ErrSize}, {make(api.Row, 100), api.ErrSize},
		{api.Row{1001, 0, 0}, api.ErrLimit}, {api.Row{0, -1001, 0}, api.ErrLimit}, {api.Row{0, 0, math.MaxInt}, api.ErrLimit}, {api.Row{math.MinInt, 0, 0}, api.ErrLimit},
	}
}

// zeros returns so many zeros.
func zeros(n int) string {
	return string(slices.Repeat([]byte("0"), n))
}

// rows returns intervals over n primes: units, those at the ends, and random ones of all sizes.
func rows(n int) []api.Row {
	r := rand.New(rand.NewPCG(11, uint64(n)))
	l := []api.Row{make(api.Row, n)}
	for i := range n {
		for _, k := range []int{1, -1, 2, api.MaxExponent, -api.MaxExponent, 100} {
			x := make(api.Row, n)
			x[i] = k
			l = append(l, x)
		}
	}
	for _, most := range []int{1, 3, 10, 50, 150, 300, api.MaxExponent} {
		for range 6 {
			x := make(api.Row, n)
			for i := range x {
				x[i] = r.IntN(2*most+1) - most
			}
			l = append(l, x)
		}
	}
	return l
}

// value returns the fraction of an interval, in the standard library.
func value(p api.Primes, x api.Row) *big.Rat {
	sides := [2]*big.Int{big.NewInt(1), big.NewInt(1)}
	for i, n := range x {
		side := 0
		if n < 0 {
			side, n = 1, -n
		}
		sides[side].Mul(sides[side], new(big.Int).Exp(big.NewInt(int64(p[i])), big.NewInt(int64(n)), nil))
	}
	return new(big.Rat).SetFrac(sides[0], sides[1])
}

// rational returns the fraction that one of the standard library is, and whether it is right.
func rational(x *big.Rat) (api.Rational, bool) {
	q := api.Rational{Num: api.Int(x.Num().String()), Den: api.Int(x.Denom().String())}
	return q, len(x.Num().Text(10)) <= api.MaxDigits && len(q.Den) <= api.MaxDigits
}

// parts returns the lists of some of the primes of a list.
func parts(p api.Primes) []api.Primes {
	l := []api.Primes{nil}
	for _, n := range p {
		for _, part := range slices.Clone(l) {
			l = append(l, append(slices.Clone(part), n))
		}
	}
	return l[1:]
}
