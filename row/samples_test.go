package row_test

import (
	"math/big"
	"math/rand/v2"
	"slices"
	"testing"

	"schisma/api"
)

const most = api.MaxEntry

// filled returns a row of so many equal elements.
func filled(length, n int) api.Row {
	return slices.Repeat(api.Row{n}, length)
}

// samples returns rows of some lengths, among them the empty one and the longest ones, with small elements and with those at the limits.
func samples() []api.Row {
	l := []api.Row{
		nil, {0}, {1}, {-1}, {most}, {-most}, {most - 1}, {0, 0}, {0, -5}, {most, -most}, {-most, -most},
		{-4, 4, -1}, {12, 19, 28}, {6, -4, 0}, {0, -3, 1}, {0, 0, 0}, {-6, 0, 9}, {most, 0, -1}, {500_000_000, 500_000_001, -500_000_000},
		filled(api.MaxRow, 0), filled(api.MaxRow, most), filled(api.MaxRow, -most),
	}
	r := rand.New(rand.NewPCG(3, 5))
	for _, length := range []int{1, 2, 3, 7, api.MaxRow} {
		for _, bound := range []int{3, 40_000, most} {
			l = append(l, random(r, length, bound))
		}
	}
	return l
}

// random returns a row of that length with elements up to a bound, half of them negative.
func random(r *rand.Rand, length, bound int) api.Row {
	var out api.Row
	for range length {
		out = append(out, r.IntN(2*bound+1)-bound)
	}
	return out
}

// wrongRows returns rows that are not right.
func wrongRows() []api.Row {
	const least, greatest = -1 << 63, 1<<63 - 1
	return []api.Row{{most + 1}, {-most - 1}, {least}, {greatest}, {0, 0, most + 1}, filled(api.MaxRow+1, 0), filled(1000, 1), filled(api.MaxRow+1, least)}
}

// big64 returns an int of the standard library's kind.
func big64(n int) *big.Int {
	return big.NewInt(int64(n))
}

// combined returns the sum of the rows, each times its factor, and whether it is right.
func combined(l []api.Row, factors []int) (api.Row, bool) {
	var out api.Row
	for j := range l[0] {
		sum := new(big.Int)
		for i, r := range l {
			sum.Add(sum, new(big.Int).Mul(big64(r[j]), big64(factors[i])))
		}
		if sum.CmpAbs(big64(most)) > 0 {
			return nil, false
		}
		out = append(out, int(sum.Int64()))
	}
	return out, true
}

// expect checks a row that is a result: the one that is wanted, or ErrLimit.
func expect(t *testing.T, what string, got api.Row, e api.Errno, want api.Row, right bool) {
	t.Helper()
	if right && (e != api.OK || !slices.Equal(got, want)) || !right && (e != api.ErrLimit || got != nil) {
		t.Errorf("%s = %v, %d, not %v, %t", what, got, e, want, right)
	}
}

// expectNumber checks a number that is a result: the one that is wanted, or ErrLimit if it is too great.
func expectNumber(t *testing.T, what string, got int, e api.Errno, want *big.Int) {
	t.Helper()
	if want.CmpAbs(big64(most)) > 0 {
		if got != 0 || e != api.ErrLimit {
			t.Errorf("%s = %d, %d, not ErrLimit", what, got, e)
		}
		return
	}
	if e != api.OK || want.Cmp(big64(got)) != 0 {
		t.Errorf("%s = %d, %d, not %v", what, got, e, want)
	}
}
