package smith_test

import (
	"math"
	"math/big"
	"math/rand/v2"
	"slices"

	"schisma/api"
)

const most = api.MaxEntry

// random returns a matrix with elements up to a bound, without the sign.
func random(r *rand.Rand, rows, columns, bound int) api.Matrix {
	m := filled(rows, columns, 0)
	for i := range m {
		for j := range m[i] {
			m[i][j] = r.IntN(2*bound+1) - bound
		}
	}
	return m
}

// filled returns a matrix of equal elements.
func filled(rows, columns, n int) api.Matrix {
	m := make(api.Matrix, rows)
	for i := range m {
		m[i] = slices.Repeat(api.Row{n}, columns)
	}
	return m
}

// diagonal returns a square matrix with these elements in its diagonal.
func diagonal(l ...int) api.Matrix {
	m := filled(len(l), len(l), 0)
	for i, n := range l {
		m[i][i] = n
	}
	return m
}

// samples returns right matrices of many shapes, among them those without rows or columns, dependent rows, and those with several factors greater than 1.
func samples() []api.Matrix {
	l := []api.Matrix{
		nil, {}, {{}}, {{}, nil}, {{0}}, {{1}}, {{-1}}, {{most}}, {{-most}}, {{0, 0}}, {{0}, {0}}, {{0, -3}, {0, 2}},
		{{2, 4}, {6, 8}}, {{-4, 4, -1}, {7, 0, -3}}, {{-4, 4, -1}, {7, 0, -3}, {2, 0, 0}}, {{1, 2}, {2, 4}, {3, 6}}, {{6}, {10}, {15}}, {{6, 10, 15}}, {{0, 2}, {3, 0}},
		{{4, 6, 10}}, {{4}, {6}, {10}}, {{0, 0, 5, 1}, {0, 0, 3, 2}}, {{most, most - 1}, {most - 1, most - 2}}, {{most, -most}, {most - 1, most}},
		filled(api.MaxRows, api.MaxColumns, most), filled(api.MaxRows, api.MaxColumns, 0), filled(api.MaxRows, 1, -6), filled(1, api.MaxColumns, -7), filled(api.MaxRows, 0, 0),
		diagonal(slices.Repeat([]int{most}, 12)...), diagonal(2, 3, 5, 7), diagonal(4, 6, 10), diagonal(12, 18, 8, 30), diagonal(0, 6, 0, 4), diagonal(2, 4, 8), diagonal(8, 4, 2),
	}
	r := rand.New(rand.NewPCG(8, 1))
	for _, shape := range [][2]int{{1, 1}, {1, 4}, {4, 1}, {2, 2}, {2, 3}, {3, 2}, {3, 3}, {3, 5}, {5, 3}, {4, 4}} {
		for _, bound := range []int{1, 3, 20, 1000} {
			m := random(r, shape[0], shape[1], bound)
			l = append(l, m, even(r, m), product(random(r, 1+r.IntN(4), shape[0], 2), m))
		}
		l = append(l, random(r, shape[0], shape[1], most))
	}
	return l
}

// even returns a matrix with columns that are multiplied by small numbers.
func even(r *rand.Rand, m api.Matrix) api.Matrix {
	out := filled(len(m), columnsOf(m), 0)
	for j := range columnsOf(m) {
		factor := []int{1, 2, 4, 6, 12}[r.IntN(5)]
		for i := range m {
			out[i][j] = factor * m[i][j]
		}
	}
	return out
}

// product returns the product of matrices with small elements.
func product(a, b api.Matrix) api.Matrix {
	out := filled(len(a), columnsOf(b), 0)
	for i := range out {
		for j := range out[i] {
			for k, n := range a[i] {
				out[i][j] += n * b[k][j]
			}
		}
	}
	return out
}

// unimodular returns a unimodular matrix with small elements.
func unimodular(r *rand.Rand, n int) api.Matrix {
	lower, upper := diagonal(slices.Repeat([]int{1}, n)...), diagonal(slices.Repeat([]int{-1}, n)...)
	for i := range n {
		for j := range i {
			lower[i][j] = r.IntN(3) - 1
			upper[j][i] = r.IntN(3) - 1
		}
	}
	return product(lower, upper)
}

// wrongMatrix is one that is not right, with its error.
type wrongMatrix struct {
	m api.Matrix
	e api.Errno
}

// wrongMatrices returns matrices with each error.
func wrongMatrices() []wrongMatrix {
	return []wrongMatrix{
		{make(api.Matrix, api.MaxRows+1), api.ErrLimit},
		{filled(1, api.MaxColumns+1, 0), api.ErrLimit},
		{filled(2, 1000, 0), api.ErrLimit},
		{api.Matrix{{1}, {1, 2}}, api.ErrSize},
		{api.Matrix{{1, 2}, nil}, api.ErrSize},
		{api.Matrix{{most + 1}}, api.ErrLimit},
		{api.Matrix{{0, -most - 1}}, api.ErrLimit},
		{api.Matrix{{0, math.MaxInt}}, api.ErrLimit},
		{api.Matrix{{0}, {math.MinInt}}, api.ErrLimit},
	}
}

// columnsOf returns the number of columns.
func columnsOf(m api.Matrix) int {
	if len(m) == 0 {
		return 0
	}
	return len(m[0])
}

// choose returns all sets of k of the indices from first below n.
func choose(first, n, k int) [][]int {
	if k == 0 {
		return [][]int{{}}
	}
	var l [][]int
	for i := first; i < n; i++ {
		for _, rest := range choose(i+1, n, k-1) {
			l = append(l, append([]int{i}, rest...))
		}
	}
	return l
}

// minor returns the determinant of the elements in some rows and columns, by expansion along the first row.
func minor(m api.Matrix, rows, columns []int) *big.Int {
	if len(rows) == 0 {
		return big.NewInt(1)
	}
	sum := new(big.Int)
	for k, column := range columns {
		n := m[rows[0]][column]
		if n == 0 {
			continue
		}
		rest := append(slices.Clone(columns[:k]), columns[k+1:]...)
		term := new(big.Int).Mul(big.NewInt(int64(n)), minor(m, rows[1:], rest))
		if k%2 == 1 {
			term.Neg(term)
		}
		sum.Add(sum, term)
	}
	return sum
}

// factorsOf returns the invariant factors by definition: from the greatest common divisors of the minors.
func factorsOf(m api.Matrix) []*big.Int {
	var l []*big.Int
	last := big.NewInt(1)
	for k := 1; k <= min(len(m), columnsOf(m)); k++ {
		g := new(big.Int)
		for _, rows := range choose(0, len(m), k) {
			for _, columns := range choose(0, columnsOf(m), k) {
				g.GCD(nil, nil, g, new(big.Int).Abs(minor(m, rows, columns)))
			}
		}
		if g.Sign() == 0 {
			break
		}
		l = append(l, new(big.Int).Quo(g, last))
		last = g
	}
	return l
}

// bigRow returns a row in the standard library's integers.
func bigRow(x api.Row) []*big.Int {
	var out []*big.Int
	for _, n := range x {
		out = append(out, big.NewInt(int64(n)))
	}
	return out
}

// formOf returns the Hermite normal form: in each column the rows below are divided by each other until one is left, by which those above are.
func formOf(m [][]*big.Int, columns int) [][]*big.Int {
	var rows [][]*big.Int
	for _, r := range m {
		var copied []*big.Int
		for _, n := range r {
			copied = append(copied, new(big.Int).Set(n))
		}
		rows = append(rows, copied)
	}
	rank := 0
	for column := range columns {
		for i := rank + 1; i < len(rows); i++ {
			for rows[i][column].Sign() != 0 {
				subtract(rows[rank], rows[i], column)
				rows[rank], rows[i] = rows[i], rows[rank]
			}
		}
		if rank == len(rows) || rows[rank][column].Sign() == 0 {
			continue
		}
		if rows[rank][column].Sign() < 0 {
			for _, n := range rows[rank] {
				n.Neg(n)
			}
		}
		for i := range rank {
			subtract(rows[i], rows[rank], column)
		}
		rank++
	}
	return rows[:rank]
}

// subtract takes the multiple of a row away from another one that leaves a remainder in a column.
func subtract(r, s []*big.Int, column int) {
	quotient := new(big.Int).Div(r[column], s[column])
	for j, n := range s {
		r[j].Sub(r[j], new(big.Int).Mul(quotient, n))
	}
}

// extended returns the form of the rows of a matrix beside those of the identity.
func extended(m api.Matrix) [][]*big.Int {
	var rows [][]*big.Int
	for i, r := range m {
		unit := make(api.Row, len(m))
		unit[i] = 1
		rows = append(rows, bigRow(slices.Concat(r, unit)))
	}
	return formOf(rows, columnsOf(m)+len(m))
}

// pivotOf returns the index of the first integer that is not 0, or -1.
func pivotOf(r []*big.Int) int {
	return slices.IndexFunc(r, func(n *big.Int) bool { return n.Sign() != 0 })
}

// reduced returns a row less multiples of the rows of a form.
func reduced(form [][]*big.Int, x []*big.Int) []*big.Int {
	var rest []*big.Int
	for _, n := range x {
		rest = append(rest, new(big.Int).Set(n))
	}
	for _, r := range form {
		subtract(rest, r, pivotOf(r))
	}
	return rest
}

// isRight reports whether all integers can be elements.
func isRight(l []*big.Int) bool {
	return !slices.ContainsFunc(l, func(n *big.Int) bool { return n.CmpAbs(big.NewInt(most)) > 0 })
}

// equal reports whether a row has these integers.
func equal(x api.Row, l []*big.Int) bool {
	return slices.EqualFunc(x, l, func(n int, b *big.Int) bool { return b.Cmp(big.NewInt(int64(n))) == 0 })
}

// same reports whether two matrices are equal.
func same(a, b api.Matrix) bool {
	return slices.EqualFunc(a, b, func(x, y api.Row) bool { return slices.Equal(x, y) })
}

// deep returns a copy.
func deep(m api.Matrix) api.Matrix {
	out := slices.Clone(m)
	for i := range out {
		out[i] = slices.Clone(out[i])
	}
	return out
}
