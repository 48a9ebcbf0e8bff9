package table_test

import (
	"math"
	"math/big"
	"math/rand/v2"
	"slices"

	"schisma/api"
)

const most = api.MaxEntry

// random returns a matrix with elements up to a bound, without the sign.
func random(r *rand.Rand, rows, columns, bound int) api.Matrix {
	m := make(api.Matrix, rows)
	for i := range m {
		m[i] = make(api.Row, columns)
		for j := range m[i] {
			m[i][j] = r.IntN(2*bound+1) - bound
		}
	}
	return m
}

// filled returns a matrix of equal elements.
func filled(rows, columns, n int) api.Matrix {
	m := make(api.Matrix, rows)
	for i := range m {
		m[i] = slices.Repeat(api.Row{n}, columns)
	}
	return m
}

// diagonal returns a square matrix with these elements in its diagonal.
func diagonal(l ...int) api.Matrix {
	m := filled(len(l), len(l), 0)
	for i, n := range l {
		m[i][i] = n
	}
	return m
}

// samples returns right matrices of many shapes, among them those without rows or columns, and dependent rows.
func samples() []api.Matrix {
	l := []api.Matrix{
		nil, {}, {{}}, {{}, {}, nil}, {{0}}, {{1}}, {{-1}}, {{most}}, {{-most}}, {{0, 0}}, {{0}, {0}},
		{{1, 2}, {3, 4}}, {{1, 2}, {2, 4}}, {{0, 2}, {3, 0}}, {{0, 0, 1}, {0, 0, 2}}, {{0, 1}, {1, 0}, {1, 1}},
		{{1, 0, -4}, {0, 1, 4}}, {{12, 19, 28}}, {{-4, 4, -1}, {7, 0, -3}}, {{0, 1, 2}, {0, 2, 4}, {3, 0, 1}},
		{{most, -most}, {most - 1, most}}, {{0, 0, 5}, {0, -7, 1}, {2, 3, 4}},
		filled(api.MaxRows, api.MaxColumns, most), filled(api.MaxRows, api.MaxColumns, 0), filled(api.MaxRows, 1, -most), filled(1, api.MaxColumns, 7), filled(api.MaxRows, 0, 0),
	}
	r := rand.New(rand.NewPCG(6, 3))
	for _, shape := range [][2]int{{1, 1}, {1, 4}, {4, 1}, {2, 2}, {2, 3}, {3, 2}, {3, 3}, {3, 5}, {5, 3}, {4, 4}, {5, 5}} {
		for _, bound := range []int{1, 3, 40, most} {
			m := random(r, shape[0], shape[1], bound)
			l = append(l, m, dependent(r, m))
		}
	}
	return append(l, random(r, 7, 7, most), random(r, 12, 12, 9), random(r, 12, 12, most), random(r, 12, 6, 5), random(r, 6, 12, 5))
}

// dependent returns a matrix in which some rows are repeated, or others with another sign, or zeros.
func dependent(r *rand.Rand, m api.Matrix) api.Matrix {
	out := filled(len(m), len(m[0]), 0)
	for i := range out {
		factor := r.IntN(3) - 1
		for j, n := range m[r.IntN(len(m))] {
			out[i][j] = factor * n
		}
	}
	return out
}

// wrongMatrix is one that is not right, with its error.
type wrongMatrix struct {
	m api.Matrix
	e api.Errno
}

// wrongMatrices returns matrices with each error, also with several ones.
func wrongMatrices() []wrongMatrix {
	return []wrongMatrix{
		{make(api.Matrix, api.MaxRows+1), api.ErrLimit},
		{filled(api.MaxRows+1, 2, 0), api.ErrLimit},
		{filled(1000, 1, 0), api.ErrLimit},
		{filled(1, api.MaxColumns+1, 0), api.ErrLimit},
		{filled(2, 1000, 0), api.ErrLimit},
		{api.Matrix{{1}, {1, 2}}, api.ErrSize},
		{api.Matrix{{1, 2}, {1}}, api.ErrSize},
		{api.Matrix{nil, {1}}, api.ErrSize},
		{api.Matrix{{1}, nil}, api.ErrSize},
		{api.Matrix{{most + 1}}, api.ErrLimit},
		{api.Matrix{{-most - 1}}, api.ErrLimit},
		{api.Matrix{{0, math.MaxInt}}, api.ErrLimit},
		{api.Matrix{{0}, {math.MinInt}}, api.ErrLimit},
		{append(api.Matrix{{1, 2, 3}}, filled(1, api.MaxColumns+1, 0)...), api.ErrLimit},
		{api.Matrix{{1}, {1, most + 1}}, api.ErrSize},
		{api.Matrix{{1}, {1, 2}, {most + 1}}, api.ErrSize},
		{api.Matrix{{1}, {most + 1}, {1, 2}}, api.ErrLimit},
		{append(api.Matrix{{1}}, filled(api.MaxRows, 2, 0)...), api.ErrLimit},
	}
}

// fractions returns what a matrix is in the standard library.
func fractions(m api.Matrix) [][]*big.Rat {
	out := make([][]*big.Rat, len(m))
	for i, r := range m {
		for _, n := range r {
			out[i] = append(out[i], big.NewRat(int64(n), 1))
		}
	}
	return out
}

// gauss brings rows of fractions into echelon form, and returns their rank and determinant (which says nothing if they are not square).
func gauss(rows [][]*big.Rat, columns int) (rank int, determinant *big.Rat) {
	determinant = big.NewRat(1, 1)
	for column := range columns {
		found := -1
		for i := rank; i < len(rows); i++ {
			if rows[i][column].Sign() != 0 {
				found = i
				break
			}
		}
		if found < 0 {
			determinant.SetInt64(0)
			continue
		}
		if found > rank {
			rows[rank], rows[found] = rows[found], rows[rank]
			determinant.Neg(determinant)
		}
		determinant.Mul(determinant, rows[rank][column])
		for i := rank + 1; i < len(rows); i++ {
			factor := new(big.Rat).Quo(rows[i][column], rows[rank][column])
			for j := range rows[i] {
				rows[i][j] = new(big.Rat).Sub(rows[i][j], new(big.Rat).Mul(factor, rows[rank][j]))
			}
		}
		rank++
	}
	if rank < len(rows) {
		determinant.SetInt64(0)
	}
	return rank, determinant
}

// rankOf returns the rank of the first columns of a matrix.
func rankOf(m api.Matrix, columns int) int {
	rank, _ := gauss(fractions(m), columns)
	return rank
}

// columnsOf returns the number of columns.
func columnsOf(m api.Matrix) int {
	if len(m) == 0 {
		return 0
	}
	return len(m[0])
}

// determinantOf returns the determinant of a square matrix.
func determinantOf(m api.Matrix) api.Int {
	_, d := gauss(fractions(m), len(m))
	return api.Int(d.Num().String())
}

// choose returns all sets of k of the indices from first below n, in lexicographic order.
func choose(first, n, k int) [][]int {
	if k == 0 {
		return [][]int{{}}
	}
	var l [][]int
	for i := first; i < n; i++ {
		for _, rest := range choose(i+1, n, k-1) {
			l = append(l, append([]int{i}, rest...))
		}
	}
	return l
}

// minorsOf returns all minors by definition.
func minorsOf(m api.Matrix, k int) []api.Int {
	var l []api.Int
	for _, rows := range choose(0, len(m), k) {
		for _, columns := range choose(0, columnsOf(m), k) {
			part := make(api.Matrix, k)
			for i, row := range rows {
				for _, column := range columns {
					part[i] = append(part[i], m[row][column])
				}
			}
			l = append(l, determinantOf(part))
		}
	}
	return l
}

// with returns a matrix with one column more.
func with(m api.Matrix, right api.Row) api.Matrix {
	out := make(api.Matrix, len(m))
	for i, r := range m {
		out[i] = append(slices.Clone(r), right[i])
	}
	return out
}

// deep returns a copy.
func deep(m api.Matrix) api.Matrix {
	out := slices.Clone(m)
	for i := range out {
		out[i] = slices.Clone(out[i])
	}
	return out
}

// rational returns what a fraction is in the standard library, if it is in lowest terms.
func rational(x api.Rational) (*big.Rat, bool) {
	r, ok := new(big.Rat).SetString(string(x.Num) + "/" + string(x.Den))
	return r, ok && r.Num().String() == string(x.Num) && r.Denom().String() == string(x.Den)
}
