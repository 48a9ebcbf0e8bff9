package lattice_test

import (
	"math"
	"math/big"
	"math/rand/v2"
	"slices"
	"testing"

	"schisma/api"
	"schisma/lattice"
)

const most = api.MaxEntry

// none is the lattice that is returned with an error.
var none = lattice.Lattice{}

// random returns a matrix with elements up to a bound, without the sign.
func random(r *rand.Rand, rows, columns, bound int) api.Matrix {
	m := make(api.Matrix, rows)
	for i := range m {
		m[i] = make(api.Row, columns)
		for j := range m[i] {
			m[i][j] = r.IntN(2*bound+1) - bound
		}
	}
	return m
}

// filled returns a matrix of equal elements.
func filled(rows, columns, n int) api.Matrix {
	m := make(api.Matrix, rows)
	for i := range m {
		m[i] = slices.Repeat(api.Row{n}, columns)
	}
	return m
}

// diagonal returns a square matrix with these elements in its diagonal.
func diagonal(l ...int) api.Matrix {
	m := filled(len(l), len(l), 0)
	for i, n := range l {
		m[i][i] = n
	}
	return m
}

// even returns a square matrix with one element throughout its diagonal.
func even(n, element int) api.Matrix {
	return diagonal(slices.Repeat([]int{element}, n)...)
}

// randomForm returns a lattice with pivots up to a bound; the other elements have bounds of their own.
func randomForm(r *rand.Rand, columns, pivots, others int) lattice.Lattice {
	l := lattice.Lattice{Columns: columns}
	for column := range columns {
		if r.IntN(3) == 0 {
			continue
		}
		next := make(api.Row, columns)
		next[column] = 1 + r.IntN(pivots)
		for j := column + 1; j < columns; j++ {
			next[j] = r.IntN(2*others+1) - others
		}
		for _, above := range l.Basis {
			above[column] = r.IntN(next[column])
		}
		l.Basis = append(l.Basis, next)
	}
	return l
}

// lattices returns right lattices, among them those without columns or rows, and those with the greatest numbers of both.
func lattices() []lattice.Lattice {
	l := []lattice.Lattice{
		{0, nil}, {0, api.Matrix{}}, {1, nil}, {12, nil}, {1, api.Matrix{{1}}}, {1, api.Matrix{{most}}}, {2, api.Matrix{{0, 7}}}, {2, api.Matrix{{1, -most}}},
		{2, api.Matrix{{1, 1}}}, {2, api.Matrix{{2, 0}, {0, 3}}}, {2, api.Matrix{{3, 0}, {0, 2}}}, {2, api.Matrix{{1, most - 1}, {0, most}}}, {2, api.Matrix{{most, most}}},
		{3, api.Matrix{{2, 4, 0}, {0, 6, 0}}}, {3, api.Matrix{{12, 19, 28}}}, {3, api.Matrix{{1, 20, -14}, {0, 28, -19}}}, {3, api.Matrix{{0, 6, 10}}},
		{3, api.Matrix{{1, 0, 1}, {0, 1, 1}, {0, 0, 2}}}, {4, api.Matrix{{3, 0, 5, 4}, {0, 0, 6, -2}}}, {4, api.Matrix{{0, 0, 0, 1}}}, {4, api.Matrix{{2, 0, 0, 2}, {0, 2, 0, 0}}},
		{3, api.Matrix{{1, 1, -most/2 - 1}, {0, 2, most}}}, {3, api.Matrix{{1, 2, -most}, {0, 3, most - 1}}}, {4, api.Matrix{{0, 1, 4, most}, {0, 0, 5, -most}}}, {3, api.Matrix{{3, 1, 0}, {0, most / 2, 1}}},
		{12, even(12, 1)}, {12, even(12, most)}, {12, even(12, 6)}, {12, filled(1, 12, most)},
	}
	r := rand.New(rand.NewPCG(9, 1))
	for _, bound := range [][2]int{{1, 3}, {3, 3}, {6, 20}, {50, most}, {most, most}} {
		for range 12 {
			l = append(l, randomForm(r, 1+r.IntN(5), bound[0], bound[1]))
		}
	}
	return append(l, randomForm(r, 12, 3, 9), randomForm(r, 12, 1, most), randomForm(r, 12, most, most))
}

// pairs yields pairs of lattices with as many columns, also some with rows in common.
func pairs(yield func(a, b lattice.Lattice) bool) {
	l := lattices()
	for _, a := range l {
		for _, b := range l {
			if a.Columns == b.Columns && !yield(a, b) {
				return
			}
		}
	}
	r := rand.New(rand.NewPCG(9, 2))
	for range 100 {
		columns := 1 + r.IntN(5)
		common := random(r, r.IntN(3), columns, 6)
		a, e := lattice.Of(columns, append(random(r, r.IntN(3), columns, 6), common...))
		b, f := lattice.Of(columns, append(random(r, r.IntN(3), columns, 6), common...))
		if e == api.OK && f == api.OK && !yield(a, b) {
			return
		}
	}
}

// rowsOf returns rows with as many columns as a lattice, some of which belong to it.
func rowsOf(r *rand.Rand, l lattice.Lattice) []api.Row {
	out := append(random(r, 3, l.Columns, 5), random(r, 3, l.Columns, most)...)
	out = append(out, make(api.Row, l.Columns), slices.Repeat(api.Row{most}, l.Columns), slices.Repeat(api.Row{-most}, l.Columns))
	for range 5 {
		x := make(api.Row, l.Columns)
		for _, b := range l.Basis {
			factor := r.IntN(7) - 3
			for j, n := range b {
				x[j] += factor * n
			}
		}
		if isRight(bigRow(x)) {
			out = append(out, x)
		}
	}
	return append(out, deep(l.Basis)...)
}

// wrongLattice is one that is not right, with its error.
type wrongLattice struct {
	l lattice.Lattice
	e api.Errno
}

// wrongLattices returns lattices with each error, and with several, of which the first one counts.
func wrongLattices() []wrongLattice {
	l := []wrongLattice{
		{lattice.Lattice{Columns: -1}, api.ErrRange},
		{lattice.Lattice{Columns: api.MaxColumns + 1}, api.ErrRange},
		{lattice.Lattice{Columns: math.MinInt}, api.ErrRange},
		{lattice.Lattice{Columns: math.MaxInt, Basis: filled(13, 13, most+1)}, api.ErrRange},
		{lattice.Lattice{Columns: api.MaxColumns + 1, Basis: even(13, 1)}, api.ErrRange},
		{lattice.Lattice{Columns: 0, Basis: make(api.Matrix, 13)}, api.ErrLimit},
		{lattice.Lattice{Columns: 2, Basis: filled(13, 3, 0)}, api.ErrLimit},
		{lattice.Lattice{Columns: 2, Basis: api.Matrix{{1, most + 1}}}, api.ErrLimit},
		{lattice.Lattice{Columns: 2, Basis: api.Matrix{{1, -most - 1}}}, api.ErrLimit},
		{lattice.Lattice{Columns: 2, Basis: api.Matrix{{1, 0}, {0, math.MaxInt}}}, api.ErrLimit},
		{lattice.Lattice{Columns: 2, Basis: api.Matrix{{math.MinInt, 0}}}, api.ErrLimit},
		{lattice.Lattice{Columns: 2, Basis: api.Matrix{{1, 2, most + 1}}}, api.ErrLimit},
		{lattice.Lattice{Columns: 2, Basis: filled(1, 65, 0)}, api.ErrLimit},
		{lattice.Lattice{Columns: 2, Basis: api.Matrix{{0, 0}, {0, most + 1}, {1}}}, api.ErrLimit},
		{lattice.Lattice{Columns: 2, Basis: filled(1, 64, 0)}, api.ErrSize},
		{lattice.Lattice{Columns: 2, Basis: filled(1, 13, 0)}, api.ErrSize},
		{lattice.Lattice{Columns: 2, Basis: api.Matrix{{1}}}, api.ErrSize},
		{lattice.Lattice{Columns: 2, Basis: api.Matrix{nil}}, api.ErrSize},
		{lattice.Lattice{Columns: 0, Basis: api.Matrix{{1}}}, api.ErrSize},
		{lattice.Lattice{Columns: 2, Basis: api.Matrix{{0, 0}, {0, 1, 0}, {most + 1, 0}}}, api.ErrSize},
		{lattice.Lattice{Columns: 0, Basis: api.Matrix{{}}}, api.ErrForm},
		{lattice.Lattice{Columns: 0, Basis: make(api.Matrix, 12)}, api.ErrForm},
		{lattice.Lattice{Columns: 1, Basis: api.Matrix{{1}, {1}}}, api.ErrForm},
	}
	for _, m := range []api.Matrix{
		{{0, 0}}, {{-1, 0}}, {{0, -2}}, {{0, 1}, {1, 0}}, {{1, 5}, {0, 5}}, {{1, 6}, {0, 5}}, {{1, -1}, {0, 5}}, {{1, 0}, {0, 0}}, {{0, 0}, {0, 1}},
		{{1, 0}, {1, 0}}, {{2, 0}, {1, 1}}, {{1, 1}, {0, 1}}, {{1, 0}, {0, -1}}, {{4, 2}, {2, 4}},
	} {
		l = append(l, wrongLattice{lattice.Lattice{Columns: 2, Basis: m}, api.ErrForm})
	}
	return l
}

// bigRow returns a row in the standard library's integers.
func bigRow(x api.Row) []*big.Int {
	out := []*big.Int{}
	for _, n := range x {
		out = append(out, big.NewInt(int64(n)))
	}
	return out
}

// bigRows does the same with the rows of matrices.
func bigRows(l ...api.Matrix) [][]*big.Int {
	var out [][]*big.Int
	for _, r := range slices.Concat(l...) {
		out = append(out, bigRow(r))
	}
	return out
}

// formOf returns the normal form of rows, which it changes: in each column the rows below are divided by each other until one is left, by which those above are.
func formOf(rows [][]*big.Int, columns int) [][]*big.Int {
	rank := 0
	for column := range columns {
		for i := rank + 1; i < len(rows); i++ {
			for rows[i][column].Sign() != 0 {
				subtract(rows[rank], rows[i], column)
				rows[rank], rows[i] = rows[i], rows[rank]
			}
		}
		if rank == len(rows) || rows[rank][column].Sign() == 0 {
			continue
		}
		if rows[rank][column].Sign() < 0 {
			for _, n := range rows[rank] {
				n.Neg(n)
			}
		}
		for i := range rank {
			subtract(rows[i], rows[rank], column)
		}
		rank++
	}
	return rows[:rank]
}

// subtract takes the multiple of a row away from another one that leaves a remainder in a column.
func subtract(r, s []*big.Int, column int) *big.Int {
	quotient := new(big.Int).Div(r[column], s[column]) // downward if the divisor is greater than 0
	for j, n := range s {
		r[j].Sub(r[j], new(big.Int).Mul(quotient, n))
	}
	return quotient
}

// kernelOf returns the form of all multiples of rows whose sum is zero.
func kernelOf(rows [][]*big.Int, columns int) [][]*big.Int {
	var beside [][]*big.Int
	for i, r := range rows {
		unit := make(api.Row, len(rows))
		unit[i] = 1
		beside = append(beside, append(slices.Clone(r), bigRow(unit)...))
	}
	var kernel [][]*big.Int
	for _, r := range formOf(beside, columns+len(rows)) {
		if isZero(r[:columns]) {
			kernel = append(kernel, r[columns:])
		}
	}
	return kernel
}

// annihilatorOf returns the form of all rows whose dot products with some rows are 0.
func annihilatorOf(rows [][]*big.Int, columns int) [][]*big.Int {
	transposed := make([][]*big.Int, columns)
	for j := range columns {
		for _, r := range rows {
			transposed[j] = append(transposed[j], new(big.Int).Set(r[j]))
		}
	}
	return kernelOf(transposed, len(rows))
}

// divide takes multiples of the rows of a form away from a row, downward, and returns what is left, and the multiples.
func divide(form api.Matrix, x api.Row) (rest, multiples []*big.Int) {
	rest = bigRow(x)
	for _, r := range form {
		column := slices.IndexFunc(r, func(n int) bool { return n != 0 })
		multiples = append(multiples, subtract(rest, bigRow(r), column))
	}
	return rest, multiples
}

// has reports whether a lattice has a row.
func has(l lattice.Lattice, x api.Row) bool {
	rest, _ := divide(l.Basis, x)
	return isZero(rest)
}

// hasAll reports whether a lattice has all rows of a matrix.
func hasAll(l lattice.Lattice, m api.Matrix) bool {
	return !slices.ContainsFunc(m, func(r api.Row) bool { return !has(l, r) })
}

// commonMinor returns the greatest common divisor of the minors of all rows, which are independent.
func commonMinor(m api.Matrix, columns int) *big.Int {
	g := new(big.Int)
	for _, chosen := range choose(0, columns, len(m)) {
		g.GCD(nil, nil, g, new(big.Int).Abs(determinant(m, chosen)))
	}
	return g
}

// determinant returns the determinant of the elements in some columns, by making the numbers below the diagonal 0 with fractions.
func determinant(m api.Matrix, columns []int) *big.Int {
	a := make([][]*big.Rat, len(m))
	for i, r := range m {
		for _, column := range columns {
			a[i] = append(a[i], big.NewRat(int64(r[column]), 1))
		}
	}
	d := big.NewRat(1, 1)
	for k := range a {
		found := slices.IndexFunc(a[k:], func(r []*big.Rat) bool { return r[k].Sign() != 0 })
		if found < 0 {
			return new(big.Int)
		}
		if found > 0 {
			a[k], a[k+found] = a[k+found], a[k]
			d.Neg(d)
		}
		d.Mul(d, a[k][k])
		for _, r := range a[k+1:] {
			factor := new(big.Rat).Quo(r[k], a[k][k])
			for j := k; j < len(r); j++ {
				r[j] = new(big.Rat).Sub(r[j], new(big.Rat).Mul(factor, a[k][j]))
			}
		}
	}
	return d.Num()
}

// choose returns all sets of k of the indices from first below n.
func choose(first, n, k int) [][]int {
	if k == 0 {
		return [][]int{{}}
	}
	var l [][]int
	for i := first; i < n; i++ {
		for _, rest := range choose(i+1, n, k-1) {
			l = append(l, append([]int{i}, rest...))
		}
	}
	return l
}

// isZero reports whether all integers are 0.
func isZero(l []*big.Int) bool {
	return !slices.ContainsFunc(l, func(n *big.Int) bool { return n.Sign() != 0 })
}

// isRight reports whether all integers can be elements.
func isRight(l []*big.Int) bool {
	return !slices.ContainsFunc(l, func(n *big.Int) bool { return n.CmpAbs(big.NewInt(most)) > 0 })
}

// equal reports whether a row has these integers.
func equal(x api.Row, l []*big.Int) bool {
	return slices.EqualFunc(x, l, func(n int, b *big.Int) bool { return b.Cmp(big.NewInt(int64(n))) == 0 })
}

// same reports whether two matrices are equal.
func same(a, b []api.Row) bool {
	return slices.EqualFunc(a, b, func(x, y api.Row) bool { return slices.Equal(x, y) })
}

// deep returns a copy.
func deep(m api.Matrix) api.Matrix {
	out := slices.Clone(m)
	for i := range out {
		out[i] = slices.Clone(out[i])
	}
	return out
}

// expectLattice checks that a lattice is the one with a basis, or the error that this one is too great, and reports whether it is too great.
func expectLattice(t *testing.T, what string, got lattice.Lattice, e api.Errno, columns int, basis [][]*big.Int) (tooGreat bool) {
	t.Helper()
	if slices.ContainsFunc(basis, func(r []*big.Int) bool { return !isRight(r) }) {
		if e != api.ErrLimit || !lattice.Equal(got, none) {
			t.Errorf("%s = %v, %d, not %v", what, got, e, basis)
		}
		return true
	}
	if e != api.OK || got.Columns != columns || !slices.EqualFunc(got.Basis, basis, equal) {
		t.Errorf("%s = %v, %d, not %v", what, got, e, basis)
	}
	if e == api.OK && lattice.Check(got) != api.OK {
		t.Errorf("%s = %v is not right", what, got)
	}
	return false
}
