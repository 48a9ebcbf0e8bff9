package hermite_test

import (
	"math"
	"math/big"
	"math/rand/v2"
	"slices"

	"schisma/api"
)

const most = api.MaxEntry

// random returns a matrix with elements up to a bound, without the sign.
func random(r *rand.Rand, rows, columns, bound int) api.Matrix {
	m := filled(rows, columns, 0)
	for i := range m {
		for j := range m[i] {
			m[i][j] = r.IntN(2*bound+1) - bound
		}
	}
	return m
}

// filled returns a matrix of equal elements.
func filled(rows, columns, n int) api.Matrix {
	m := make(api.Matrix, rows)
	for i := range m {
		m[i] = slices.Repeat(api.Row{n}, columns)
	}
	return m
}

// diagonal returns a square matrix with these elements in its diagonal.
func diagonal(l ...int) api.Matrix {
	m := filled(len(l), len(l), 0)
	for i, n := range l {
		m[i][i] = n
	}
	return m
}

// combined returns rows that are integer sums of those of a matrix.
func combined(r *rand.Rand, m api.Matrix, rows, bound int) api.Matrix {
	out := filled(rows, len(m[0]), 0)
	for i := range out {
		for _, s := range m {
			factor := r.IntN(2*bound+1) - bound
			for j, n := range s {
				out[i][j] += factor * n
			}
		}
	}
	return out
}

// samples returns right matrices of many shapes, among them those without rows or columns, and dependent rows.
func samples() []api.Matrix {
	l := []api.Matrix{
		nil, {}, {{}}, {{}, nil}, {{0}}, {{1}}, {{-1}}, {{most}}, {{-most}}, {{0, 0}}, {{0}, {0}}, {{0, -3}, {0, 2}},
		{{2, 4}, {3, 5}}, {{-4, 4, -1}, {7, 0, -3}}, {{0, 0}, {0, -3}, {0, 2}}, {{6, 0}, {4, 0}}, {{6}, {10}, {15}}, {{12, 19, 28}},
		{{0, 0, 5, 1}, {0, 0, 3, 2}}, {{most, most - 1}, {most - 1, most - 2}}, {{most, -most}, {most - 1, most}},
		filled(api.MaxRows, api.MaxColumns, most), filled(api.MaxRows, api.MaxColumns, 0), filled(api.MaxRows, 1, -most), filled(1, api.MaxColumns, -7), filled(api.MaxRows, 0, 0),
		diagonal(slices.Repeat([]int{most}, 12)...), diagonal(2, 3, 5, 7),
	}
	r := rand.New(rand.NewPCG(7, 1))
	for _, shape := range [][2]int{{1, 1}, {1, 4}, {4, 1}, {2, 2}, {2, 3}, {3, 2}, {3, 3}, {3, 5}, {5, 3}, {4, 4}, {5, 5}} {
		for _, bound := range []int{1, 3, 20, 1000} {
			m := random(r, shape[0], shape[1], bound)
			l = append(l, m, combined(r, m, 1+r.IntN(5), 2))
		}
		l = append(l, random(r, shape[0], shape[1], most))
	}
	return append(l, random(r, 12, 12, 1), random(r, 12, 12, 9), random(r, 12, 12, most), random(r, 12, 6, 5), random(r, 6, 12, 5))
}

// wrongMatrix is one that is not right, with its error.
type wrongMatrix struct {
	m api.Matrix
	e api.Errno
}

// wrongMatrices returns matrices with each error.
func wrongMatrices() []wrongMatrix {
	return []wrongMatrix{
		{make(api.Matrix, api.MaxRows+1), api.ErrLimit},
		{filled(1, api.MaxColumns+1, 0), api.ErrLimit},
		{filled(2, 1000, 0), api.ErrLimit},
		{api.Matrix{{1}, {1, 2}}, api.ErrSize},
		{api.Matrix{{1, 2}, nil}, api.ErrSize},
		{api.Matrix{{most + 1}}, api.ErrLimit},
		{api.Matrix{{0, -most - 1}}, api.ErrLimit},
		{api.Matrix{{0, math.MaxInt}}, api.ErrLimit},
		{api.Matrix{{0}, {math.MinInt}}, api.ErrLimit},
	}
}

// columnsOf returns the number of columns.
func columnsOf(m api.Matrix) int {
	if len(m) == 0 {
		return 0
	}
	return len(m[0])
}

// choose returns all sets of k of the indices from first below n.
func choose(first, n, k int) [][]int {
	if k == 0 {
		return [][]int{{}}
	}
	var l [][]int
	for i := first; i < n; i++ {
		for _, rest := range choose(i+1, n, k-1) {
			l = append(l, append([]int{i}, rest...))
		}
	}
	return l
}

// determinant returns the determinant of the elements in some rows and columns, by expansion along the first row for few rows and otherwise with fractions.
func determinant(m api.Matrix, rows, columns []int) *big.Int {
	a := make([][]*big.Rat, len(rows))
	for i, row := range rows {
		for _, column := range columns {
			a[i] = append(a[i], big.NewRat(int64(m[row][column]), 1))
		}
	}
	d := big.NewRat(1, 1)
	for k := range a {
		found := slices.IndexFunc(a[k:], func(r []*big.Rat) bool { return r[k].Sign() != 0 })
		if found < 0 {
			return new(big.Int)
		}
		if found > 0 {
			a[k], a[k+found] = a[k+found], a[k]
			d.Neg(d)
		}
		d.Mul(d, a[k][k])
		for _, r := range a[k+1:] {
			factor := new(big.Rat).Quo(r[k], a[k][k])
			for j := k; j < len(r); j++ {
				r[j] = new(big.Rat).Sub(r[j], new(big.Rat).Mul(factor, a[k][j]))
			}
		}
	}
	return d.Num()
}

// divisor returns the greatest common divisor of the minors of as many rows as are independent, and their number.
func divisor(m api.Matrix) (g *big.Int, rank int) {
	for k := min(len(m), columnsOf(m)); k > 0; k-- {
		g = new(big.Int)
		for _, rows := range choose(0, len(m), k) {
			for _, columns := range choose(0, columnsOf(m), k) {
				g.GCD(nil, nil, g, new(big.Int).Abs(determinant(m, rows, columns)))
			}
		}
		if g.Sign() > 0 {
			return g, k
		}
	}
	return big.NewInt(1), 0
}

// formOf returns the normal form: in each column the rows below are divided by each other until one is left, by which those above are.
func formOf(m api.Matrix) [][]*big.Int {
	var rows [][]*big.Int
	for _, r := range m {
		rows = append(rows, bigRow(r))
	}
	rank := 0
	for column := range columnsOf(m) {
		for i := rank + 1; i < len(rows); i++ {
			for rows[i][column].Sign() != 0 {
				subtract(rows[rank], rows[i], column)
				rows[rank], rows[i] = rows[i], rows[rank]
			}
		}
		if rank == len(rows) || rows[rank][column].Sign() == 0 {
			continue
		}
		if rows[rank][column].Sign() < 0 {
			for _, n := range rows[rank] {
				n.Neg(n)
			}
		}
		for i := range rank {
			subtract(rows[i], rows[rank], column)
		}
		rank++
	}
	return rows[:rank]
}

// subtract takes the multiple of a row away from another one that leaves a remainder in a column.
func subtract(r, s []*big.Int, column int) {
	quotient := new(big.Int).Div(r[column], s[column]) // downward if the divisor is greater than 0
	for j, n := range s {
		r[j].Sub(r[j], new(big.Int).Mul(quotient, n))
	}
}

// isForm reports whether a matrix is in normal form, by the definition.
func isForm(m api.Matrix) bool {
	last := -1
	for i, r := range m {
		column := 0
		for column < len(r) && r[column] == 0 {
			column++
		}
		if column == len(r) || column <= last || r[column] < 0 {
			return false
		}
		for _, above := range m[:i] {
			if above[column] < 0 || above[column] >= r[column] {
				return false
			}
		}
		last = column
	}
	return true
}

// divide takes multiples of the rows of a form away from a row, downward, and returns what is left, and the multiples.
func divide(form api.Matrix, x []*big.Int) (rest, multiples []*big.Int) {
	for _, n := range x {
		rest = append(rest, new(big.Int).Set(n))
	}
	for _, r := range form {
		column := slices.IndexFunc(r, func(n int) bool { return n != 0 })
		quotient := new(big.Int).Div(rest[column], big.NewInt(int64(r[column])))
		for j, n := range r {
			rest[j].Sub(rest[j], new(big.Int).Mul(quotient, big.NewInt(int64(n))))
		}
		multiples = append(multiples, quotient)
	}
	return rest, multiples
}

// bigRow returns a row in the standard library's integers.
func bigRow(x api.Row) []*big.Int {
	var out []*big.Int
	for _, n := range x {
		out = append(out, big.NewInt(int64(n)))
	}
	return out
}

// isZero reports whether all integers are 0.
func isZero(l []*big.Int) bool {
	return !slices.ContainsFunc(l, func(n *big.Int) bool { return n.Sign() != 0 })
}

// isRight reports whether all integers can be elements.
func isRight(l []*big.Int) bool {
	return !slices.ContainsFunc(l, func(n *big.Int) bool { return n.CmpAbs(big.NewInt(most)) > 0 })
}

// equal reports whether a row has these integers.
func equal(x api.Row, l []*big.Int) bool {
	return slices.EqualFunc(x, l, func(n int, b *big.Int) bool { return b.Cmp(big.NewInt(int64(n))) == 0 })
}

// has reports whether the lattice of a form has a row.
func has(form api.Matrix, x api.Row) bool {
	rest, _ := divide(form, bigRow(x))
	return isZero(rest)
}

// same reports whether two matrices are equal.
func same(a, b api.Matrix) bool {
	return slices.EqualFunc(a, b, func(x, y api.Row) bool { return slices.Equal(x, y) })
}

// deep returns a copy.
func deep(m api.Matrix) api.Matrix {
	out := slices.Clone(m)
	for i := range out {
		out[i] = slices.Clone(out[i])
	}
	return out
}

// forms returns matrices in normal form.
func forms() []api.Matrix {
	l := []api.Matrix{
		nil, {}, {{1}}, {{most}}, {{0, 7}}, {{1, most}}, {{1, most - 1}, {0, most}}, {{1, -most}}, {{2, 0}, {0, 3}}, {{1, 20, -14}, {0, 28, -19}},
		{{3, 0, 5, 4}, {0, 0, 6, -2}}, {{2, 1, 1}, {0, 2, 1}, {0, 0, 2}}, {{0, 0, 0, 1}}, {{1, 1}}, diagonal(slices.Repeat([]int{1}, 12)...), diagonal(slices.Repeat([]int{most}, 12)...),
	}
	r := rand.New(rand.NewPCG(7, 2))
	for range 60 {
		columns := 1 + r.IntN(6)
		bound := []int{3, 50, most}[r.IntN(3)]
		m := filled(0, 0, 0)
		for column := range columns {
			if r.IntN(3) == 0 {
				continue
			}
			next := make(api.Row, columns)
			next[column] = 1 + r.IntN(bound)
			for j := column + 1; j < columns; j++ {
				next[j] = r.IntN(2*bound+1) - bound
			}
			for _, above := range m {
				above[column] = r.IntN(next[column])
			}
			m = append(m, next)
		}
		l = append(l, m)
	}
	return l
}

// noForms returns right matrices that are not in normal form.
func noForms() []api.Matrix {
	return []api.Matrix{
		{{0}}, {{}}, {{}, {}}, {{0, 0}}, {{-1, 0}}, {{0, -2}}, {{0, 1}, {1, 0}}, {{1, 5}, {0, 5}}, {{1, 6}, {0, 5}}, {{1, -1}, {0, 5}}, {{1, 0}, {0, 0}}, {{0, 0}, {0, 1}},
		{{1, 0}, {1, 0}}, {{2, 0}, {1, 1}}, {{1, 0, 0}, {0, 1, 2}, {0, 0, 2}}, {{1, 0, 2}, {0, 1, 0}, {0, 0, 2}}, {{1, 0, 0}, {0, 0, 1}, {0, 1, 0}}, {{0, 1, 0}, {0, 1, 1}}, {{1, 1}, {0, 1}}, {{1, 0}, {0, -1}},
	}
}
