package interval_test

import (
	"cmp"
	"math"
	"math/big"
	"math/rand/v2"
	"slices"

	"schisma/api"
)

// lists returns right lists of primes.
func lists() []api.Primes {
	return []api.Primes{{2}, {3}, {97}, {2, 3}, {2, 3, 5}, {3, 5, 7}, {2, 3, 7, 11}, {2, 3, 5, 7, 11, 13}, {73, 79, 83, 89, 97}}
}

// wrongList is a list of primes with its error.
type wrongList struct {
	p api.Primes
	e api.Errno
}

// wrongLists returns lists that are not right.
func wrongLists() []wrongList {
	return []wrongList{
		{nil, api.ErrEmpty}, {api.Primes{2, 3, 5, 7, 11, 13, 17}, api.ErrLimit}, {make(api.Primes, 100), api.ErrLimit},
		{api.Primes{2, 4, 3}, api.ErrPrime}, {api.Primes{2, 3, 101}, api.ErrPrime}, {api.Primes{math.MinInt, 2, 3}, api.ErrPrime},
		{api.Primes{3, 2, 5}, api.ErrOrder}, {api.Primes{2, 2, 4}, api.ErrOrder},
	}
}

// wrongRow is a row that is no interval over a list of three primes, with its error.
type wrongRow struct {
	x api.Row
	e api.Errno
}

// wrongRows returns some of them.
func wrongRows() []wrongRow {
	return []wrongRow{
		{nil, api.ErrSize}, {api.Row{1, 2}, api.ErrSize}, {api.Row{0, 0, 0, 0}, api.ErrSize}, {api.Row{1001, 0}, api.ErrSize}, {make(api.Row, 100), api.ErrSize},
		{api.Row{1001, 0, 0}, api.ErrLimit}, {api.Row{0, -1001, 0}, api.ErrLimit}, {api.Row{0, 0, math.MinInt}, api.ErrLimit}, {api.Row{math.MaxInt, math.MinInt, 0}, api.ErrLimit},
	}
}

// rows returns intervals over n primes: zeros, units, small and great ones.
func rows(n int) []api.Row {
	r := rand.New(rand.NewPCG(15, uint64(n)))
	l := []api.Row{make(api.Row, n)}
	for i := range n {
		for _, k := range []int{1, -1, 2, -3, api.MaxExponent, -api.MaxExponent} {
			l = append(l, unit(n, i, k))
		}
	}
	for _, most := range []int{1, 2, 3, 10, 100, api.MaxExponent} {
		for range 6 {
			l = append(l, random(r, n, most))
		}
	}
	return append(l, nearUnison(n)...)
}

// unit returns the interval with one exponent that is not 0.
func unit(n, i, k int) api.Row {
	x := make(api.Row, n)
	x[i] = k
	return x
}

// random returns an interval with exponents up to a limit.
func random(r *rand.Rand, n, most int) api.Row {
	x := make(api.Row, n)
	for i := range x {
		x[i] = r.IntN(2*most+1) - most
	}
	return x
}

// nearUnison returns intervals over the first n primes that only many digits tell from the unison.
func nearUnison(n int) []api.Row {
	switch n {
	case 2:
		return []api.Row{{-19, 12}, {-84, 53}, {-485, 306}, {84, -53}}
	case 3:
		return []api.Row{{-4, 4, -1}, {-15, 8, 1}, {-90, -15, 49}}
	case 6:
		return []api.Row{{-178, -449, 439, 153, 140, -282}, {242, -101, -457, 501, -131, 7}, {374, 195, 18, 33, -339, 96}, {397, -513, -204, -440, 426, 176}}
	}
	return nil
}

// compare returns the order of two rows of exponents: by floating point if they are far from each other, and otherwise by both sides of the fraction of their difference.
func compare(p api.Primes, x, y api.Row) int {
	const far = 0.001
	difference := plus(x, -1, y)
	octaves := 0.0
	for i, n := range difference {
		octaves += float64(n) * math.Log2(float64(p[i]))
	}
	if math.Abs(octaves) > far {
		return cmp.Compare(octaves, 0)
	}
	sides := [2]*big.Int{big.NewInt(1), big.NewInt(1)}
	for i, n := range difference {
		side := 0
		if n < 0 {
			side, n = 1, -n
		}
		sides[side].Mul(sides[side], new(big.Int).Exp(big.NewInt(int64(p[i])), big.NewInt(int64(n)), nil))
	}
	return sides[0].Cmp(sides[1])
}

// plus returns x and k times y.
func plus(x api.Row, k int, y api.Row) api.Row {
	z := make(api.Row, len(x))
	for i := range x {
		z[i] = x[i] + k*y[i]
	}
	return z
}

// isRight reports whether no exponent of an interval is too great.
func isRight(x api.Row) bool {
	return !slices.ContainsFunc(x, func(n int) bool { return n > api.MaxExponent || n < -api.MaxExponent })
}

// equal reports whether lists of intervals are equal.
func equal(a, b []api.Row) bool {
	return slices.EqualFunc(a, b, func(x, y api.Row) bool { return slices.Equal(x, y) })
}
