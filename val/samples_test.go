package val_test

import (
	"cmp"
	"math"
	"math/big"
	"slices"
	"strings"
	"testing"

	"schisma/api"
)

// lists returns right lists of primes.
func lists() []api.Primes {
	return []api.Primes{{2}, {97}, {2, 3}, {3, 5}, {89, 97}, {2, 97}, {2, 3, 5}, {3, 5, 7}, {2, 3, 7, 11}, {2, 3, 5, 7, 11}, {2, 3, 5, 7, 11, 13}, {73, 79, 83, 89, 97}}
}

// numbers returns numbers of steps: small ones, the greatest, and those for which the place of 3, with the equave 2, is nearly an integer, or nearly between two.
func numbers() []int {
	l := []int{1000, 4097, 65_536, 99_999, 100_000, 53, 306, 665, 15_601, 31_867, 79_335, 153, 971, 6189, 55_601}
	for n := 1; n <= 60; n++ {
		l = append(l, n)
	}
	return l
}

// compare returns the order of n times the logarithm of p and m times that of q; neither n nor m is negative.
func compare(p, n, q, m int) int {
	power := func(base, exponent int) *big.Int {
		return new(big.Int).Exp(big.NewInt(int64(base)), big.NewInt(int64(exponent)), nil)
	}
	return power(p, n).Cmp(power(q, m))
}

// isNearest reports whether an integer of at least 1 is the nearest one to the place of a prime: it is less than half of 1 away from it.
func isNearest(p api.Primes, steps, index, n int) bool {
	return compare(p[index], 2*steps, p[0], 2*n-1) > 0 && compare(p[index], 2*steps, p[0], 2*n+1) < 0
}

// place returns that of a prime, with an error that is much less than the distance from any integer, or from the middle between two: these are different for all numbers of steps up to 100000.
func place(t *testing.T, p api.Primes, steps, index int) float64 {
	t.Helper()
	x := float64(steps) * math.Log(float64(p[index])) / math.Log(float64(p[0]))
	if rest := 2*x - math.Round(2*x); index > 0 && math.Abs(rest) < 1e-8 {
		t.Fatalf("the place of %d for %d steps of %d is too near to an integer, or to the middle of two", p[index], steps, p[0])
	}
	return x
}

// around returns the integers near the place of a prime that is not the equave, by their distance from it.
func around(t *testing.T, p api.Primes, steps, index int) []int {
	t.Helper()
	x := place(t, p, steps, index)
	var l []int
	for n := int(x) - 15; n < int(x)+15; n++ {
		l = append(l, n)
	}
	slices.SortFunc(l, func(a, b int) int { return cmp.Compare(math.Abs(float64(a)-x), math.Abs(float64(b)-x)) })
	return l[:26]
}

// uniform returns all uniform vals for numbers of steps between two, which are no ends of elements, in order. They change where a place is between two integers; there the numbers of steps are far enough from each other for floating point.
func uniform(t *testing.T, p api.Primes, low, high float64) []api.Row {
	t.Helper()
	ends := []float64{low, high}
	logs := make([]float64, len(p))
	for i, n := range p {
		logs[i] = math.Log(float64(n)) / math.Log(float64(p[0]))
		for k := math.Ceil(low*logs[i] - 0.5); k+0.5 < high*logs[i]; k++ {
			ends = append(ends, (k+0.5)/logs[i])
		}
	}
	slices.Sort(ends)
	var vals []api.Row
	for i := 1; i < len(ends); i++ {
		if ends[i]-ends[i-1] < 1e-8 {
			t.Fatalf("over %v the ends %v and %v are too near to each other", p, ends[i-1], ends[i])
		}
		x := (ends[i-1] + ends[i]) / 2
		v := make(api.Row, len(p))
		for j, log := range logs {
			v[j] = int(math.Floor(0.5 + x*log))
		}
		vals = append(vals, v)
	}
	return vals
}

// between returns the uniform vals whose first element is from low to high.
func between(t *testing.T, p api.Primes, low, high int) []api.Row {
	t.Helper()
	vals := uniform(t, p, float64(low)-0.75, float64(high)+0.75)
	return slices.DeleteFunc(vals, func(v api.Row) bool { return v[0] < low || v[0] > high })
}

// changed returns a row with one element replaced.
func changed(v api.Row, i, n int) api.Row {
	w := slices.Clone(v)
	w[i] = n
	return w
}

// equal reports whether lists of rows are equal.
func equal(a, b []api.Row) bool {
	return slices.EqualFunc(a, b, func(x, y api.Row) bool { return slices.Equal(x, y) })
}

// warts returns so many letters for each of the primes but the first one.
func warts(counts ...int) string {
	var s string
	for i, n := range counts {
		s += strings.Repeat(string("bcdef"[i]), n)
	}
	return s
}

// wrongList is a list of primes with its error.
type wrongList struct {
	p api.Primes
	e api.Errno
}

// wrongLists returns lists that are not right.
func wrongLists() []wrongList {
	return []wrongList{
		{nil, api.ErrEmpty}, {api.Primes{2, 3, 5, 7, 11, 13, 17}, api.ErrLimit}, {make(api.Primes, 100), api.ErrLimit},
		{api.Primes{2, 4, 3}, api.ErrPrime}, {api.Primes{2, 3, 101}, api.ErrPrime}, {api.Primes{math.MinInt, 2, 3}, api.ErrPrime},
		{api.Primes{3, 2, 5}, api.ErrOrder}, {api.Primes{2, 2, 4}, api.ErrOrder},
	}
}

// wrongRow is a row that is no val, or no interval, over a list of three primes, with its error.
type wrongRow struct {
	x api.Row
	e api.Errno
}

// wrongVals returns some vals.
func wrongVals() []wrongRow {
	const most = api.MaxEntry
	return []wrongRow{
		{nil, api.ErrSize}, {api.Row{12, 19}, api.ErrSize}, {api.Row{0, 0, 0, 0}, api.ErrSize}, {make(api.Row, api.MaxRow), api.ErrSize}, {make(api.Row, api.MaxRow+1), api.ErrLimit},
		{api.Row{most + 1, 0, 0}, api.ErrLimit}, {api.Row{12, 19, -most - 1}, api.ErrLimit}, {api.Row{12, most + 1}, api.ErrLimit}, {api.Row{0, math.MinInt, math.MaxInt}, api.ErrLimit},
	}
}

// wrongIntervals returns some intervals.
func wrongIntervals() []wrongRow {
	return []wrongRow{
		{nil, api.ErrSize}, {api.Row{1, 2}, api.ErrSize}, {api.Row{1001, 0}, api.ErrSize}, {make(api.Row, 100), api.ErrSize},
		{api.Row{1001, 0, 0}, api.ErrLimit}, {api.Row{0, -1001, 0}, api.ErrLimit}, {api.Row{math.MaxInt, math.MinInt, 0}, api.ErrLimit},
	}
}
