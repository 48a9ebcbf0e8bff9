package temperament_test

import (
	"math"
	"math/big"
	"math/rand/v2"
	"slices"

	"schisma/api"
)

const most = api.MaxEntry

// lists returns right lists of primes.
func lists() []api.Primes {
	return []api.Primes{{2}, {97}, {2, 3}, {3, 97}, {2, 3, 5}, {3, 5, 7}, {2, 3, 7, 11}, {2, 3, 5, 7, 11}, {2, 3, 5, 7, 11, 13}}
}

// rows is what a temperament is made of.
type rows struct {
	p api.Primes
	m api.Matrix
}

// samples returns rows over lists of primes: none, zeros, those of well-known temperaments, dependent, random and great ones.
func samples() []rows {
	three, four := api.Primes{2, 3, 5}, api.Primes{2, 3, 5, 7}
	l := []rows{
		{three, api.Matrix{{-4, 4, -1}}}, {three, api.Matrix{{-8, 8, -2}}}, {three, api.Matrix{{12, 19, 28}}}, {three, api.Matrix{{12, 19, 28}, {19, 30, 44}}}, {three, api.Matrix{{-4, 4, -1}, {7, 0, -3}}}, {three, api.Matrix{{-4, 4, -1}, {8, -8, 2}, {0, 0, 0}}},
		{three, api.Matrix{{24, 38, 56}}}, {three, api.Matrix{{24, 38, 56}, {19, 30, 44}}}, {three, api.Matrix{{0, 0, 3}}}, {three, api.Matrix{{0, 5, 10}}}, {three, api.Matrix{{2, 0, 0}, {0, 3, 0}, {0, 0, 5}}}, {three, api.Matrix{{1, 2, 3}, {4, 5, 6}, {7, 8, 9}}},
		{four, api.Matrix{{12, 19, 28, 34}, {19, 30, 44, 53}}}, {four, api.Matrix{{-4, 4, -1, 0}, {1, 2, -3, 1}}}, {four, api.Matrix{{-5, 2, 2, -1}, {0, -5, 1, 2}, {-10, -1, 5, 0}}}, {four, api.Matrix{{6, 0, 4, 2}, {3, 3, 3, 3}, {9, 3, 7, 5}}},
		{api.Primes{2, 3, 5, 7, 11, 13}, api.Matrix{{31, 49, 72, 87, 107, 115}, {41, 65, 95, 115, 142, 152}}}, {three, slices.Repeat(api.Matrix{{-4, 4, -1}, {12, 19, 28}}, 6)},
	}
	r := rand.New(rand.NewPCG(18, 1))
	for _, p := range lists() {
		n := len(p)
		l = append(l, rows{p, nil}, rows{p, api.Matrix{}}, rows{p, api.Matrix{make(api.Row, n)}}, rows{p, api.Matrix{slices.Repeat(api.Row{most}, n)}}, rows{p, api.Matrix{slices.Repeat(api.Row{-6}, n)}}, rows{p, random(r, api.MaxRows, n, 2)})
		for _, bound := range []int{1, 3, 12, 100} {
			for count := range n + 1 {
				l = append(l, rows{p, random(r, count, n, bound)})
			}
		}
		for range 3 {
			l = append(l, rows{p, random(r, 1+r.IntN(n), n, most)})
		}
	}
	return append(l, great()...)
}

// great returns rows whose lattice, saturation or annihilator has an element that is too great, or nearly so.
func great() []rows {
	two, three := api.Primes{2, 3}, api.Primes{2, 3, 5}
	return []rows{
		{two, api.Matrix{{most - 1, 1}, {1, most}}}, {two, api.Matrix{{1, most}}}, {two, api.Matrix{{most, most - 1}}}, {two, api.Matrix{{-most, 1}}},
		{three, api.Matrix{{1, 1, -most/2 - 1}, {0, 2, most}}}, {three, api.Matrix{{1, 1, -most/2 + 1}, {0, 2, most}}},
		{three, api.Matrix{{99_991, 0, 3}, {0, 99_989, 5}}}, {three, api.Matrix{{31_607, 0, 3}, {0, 31_627, 5}}}, {three, api.Matrix{{40_000, 0, 3}, {0, 24_999, 5}}}, {three, api.Matrix{{40_000, 0, 3}, {0, 25_001, 7}}},
	}
}

// random returns a matrix with elements up to a bound, without the sign.
func random(r *rand.Rand, count, columns, bound int) api.Matrix {
	m := make(api.Matrix, count)
	for i := range m {
		m[i] = make(api.Row, columns)
		for j := range m[i] {
			m[i][j] = r.IntN(2*bound+1) - bound
		}
	}
	return m
}

// bigRow returns a row in the standard library's integers.
func bigRow(x api.Row) []*big.Int {
	out := make([]*big.Int, len(x))
	for i, n := range x {
		out[i] = big.NewInt(int64(n))
	}
	return out
}

// bigRows does the same with the rows of a matrix.
func bigRows(m api.Matrix) [][]*big.Int {
	var out [][]*big.Int
	for _, r := range m {
		out = append(out, bigRow(r))
	}
	return out
}

// formOf returns the Hermite normal form of rows, which it changes: in each column the rows below are divided by each other until one is left, by which those above are.
func formOf(rows [][]*big.Int, columns int) [][]*big.Int {
	rank := 0
	for column := range columns {
		for i := rank + 1; i < len(rows); i++ {
			for rows[i][column].Sign() != 0 {
				divide(rows[rank], rows[i], column)
				rows[rank], rows[i] = rows[i], rows[rank]
			}
		}
		if rank == len(rows) || rows[rank][column].Sign() == 0 {
			continue
		}
		if rows[rank][column].Sign() < 0 {
			for _, n := range rows[rank] {
				n.Neg(n)
			}
		}
		for i := range rank {
			divide(rows[i], rows[rank], column)
		}
		rank++
	}
	return rows[:rank]
}

// divide takes the multiple of a row away from another one that leaves a remainder in a column.
func divide(r, by []*big.Int, column int) {
	quotient := new(big.Int).Div(r[column], by[column]) // downward if the divisor is greater than 0
	for j, n := range by {
		r[j].Sub(r[j], new(big.Int).Mul(quotient, n))
	}
}

// annihilatorOf returns the form of all rows whose dot products with some rows are 0: those that stand beside zeros when each column has a unit beside it.
func annihilatorOf(rows [][]*big.Int, columns int) [][]*big.Int {
	var beside [][]*big.Int
	for j := range columns {
		var r []*big.Int
		for _, x := range rows {
			r = append(r, new(big.Int).Set(x[j]))
		}
		unit := make(api.Row, columns)
		unit[j] = 1
		beside = append(beside, append(r, bigRow(unit)...))
	}
	var kernel [][]*big.Int
	for _, r := range formOf(beside, len(rows)+columns) {
		if isZero(r[:len(rows)]) {
			kernel = append(kernel, r[len(rows):])
		}
	}
	return kernel
}

// isZero reports whether all integers are 0.
func isZero(l []*big.Int) bool {
	return !slices.ContainsFunc(l, func(n *big.Int) bool { return n.Sign() != 0 })
}

// right returns the matrix of ints that rows are, if no element is too great.
func right(rows [][]*big.Int) (m api.Matrix, is bool) {
	for _, r := range rows {
		x := make(api.Row, len(r))
		for i, n := range r {
			if n.CmpAbs(big.NewInt(most)) > 0 {
				return nil, false
			}
			x[i] = int(n.Int64())
		}
		m = append(m, x)
	}
	return m, true
}

// dot returns the sum of the products of the elements.
func dot(x, y []*big.Int) *big.Int {
	sum := new(big.Int)
	for i, n := range x {
		sum.Add(sum, new(big.Int).Mul(n, y[i]))
	}
	return sum
}

// bases returns the bases of the saturation and of the annihilator of some rows, if both, and that of their lattice, are right.
func (r rows) bases() (saturation, annihilator api.Matrix, are bool) {
	n := len(r.p)
	killing := annihilatorOf(bigRows(r.m), n)
	saturation, first := right(annihilatorOf(killing, n))
	annihilator, second := right(killing)
	_, third := right(formOf(bigRows(r.m), n))
	return saturation, annihilator, first && second && third
}

// temperaments returns those with the commas, or the mapping, of all samples.
func temperaments() []api.Temperament {
	var l []api.Temperament
	for _, r := range samples() {
		if saturation, annihilator, are := r.bases(); are {
			l = append(l, api.Temperament{Primes: r.p, Commas: saturation, Mapping: annihilator}, api.Temperament{Primes: r.p, Commas: annihilator, Mapping: saturation})
		}
	}
	return l
}

// wrong is a temperament that is not right, with its error.
type wrong struct {
	t api.Temperament
	e api.Errno
}

// wrongTemperaments returns temperaments with each error, and with several, of which the first one counts.
func wrongTemperaments() []wrong {
	p := api.Primes{2, 3, 5}
	comma, mapping := api.Matrix{{4, -4, 1}}, api.Matrix{{1, 0, -4}, {0, 1, 4}}
	l := []wrong{
		{api.Temperament{}, api.ErrEmpty}, {api.Temperament{Commas: comma, Mapping: mapping}, api.ErrEmpty}, {api.Temperament{Primes: api.Primes{2, 3, 5, 7, 11, 13, 17}}, api.ErrLimit},
		{api.Temperament{Primes: api.Primes{2, 3, 4}, Commas: api.Matrix{{1}}}, api.ErrPrime}, {api.Temperament{Primes: api.Primes{2, 3, 101}, Commas: comma, Mapping: mapping}, api.ErrPrime}, {api.Temperament{Primes: api.Primes{3, 2, 5}, Commas: comma, Mapping: mapping}, api.ErrOrder},
	}
	for _, m := range []api.Matrix{nil, mapping, comma} {
		for _, c := range []struct {
			commas api.Matrix
			e      api.Errno
		}{
			{make(api.Matrix, api.MaxRows+1), api.ErrLimit}, {api.Matrix{{4, -4, most + 1}}, api.ErrLimit}, {api.Matrix{{math.MinInt, 0}}, api.ErrLimit}, {api.Matrix{make(api.Row, api.MaxRow+1)}, api.ErrLimit}, {api.Matrix{{0, 0, 0}, {0, 0, -most - 1}}, api.ErrLimit},
			{api.Matrix{{4, -4}}, api.ErrSize}, {api.Matrix{{4, -4, 1, 0}}, api.ErrSize}, {api.Matrix{nil}, api.ErrSize}, {api.Matrix{{-4, 4, -1}, {1}, {0, 0, most + 1}}, api.ErrSize},
			{api.Matrix{{-4, 4, -1}}, api.ErrForm}, {api.Matrix{{0, 0, 0}}, api.ErrForm}, {api.Matrix{{4, -4, 1}, {0, 0, 0}}, api.ErrForm}, {api.Matrix{{0, 1, 0}, {1, 0, 0}}, api.ErrForm}, {api.Matrix{{1, 1, 0}, {0, 1, 0}}, api.ErrForm}, {api.Matrix{{1, -1, 0}, {0, 1, 0}}, api.ErrForm},
			{api.Matrix{{8, -8, 2}}, api.ErrForm}, {api.Matrix{{2, 0, 0}}, api.ErrForm}, {api.Matrix{{1, 0, 0}, {0, 2, 0}}, api.ErrForm}, {api.Matrix{{2, 0, 0}, {0, 2, 1}}, api.ErrForm}, {api.Matrix{{1, 1, 0}, {0, 2, 0}}, api.ErrForm}, {api.Matrix{{1, 0, 1}, {0, 1, 1}, {0, 0, 2}}, api.ErrForm},
			{api.Matrix{{most, most, most}}, api.ErrForm}, {api.Matrix{{most, 0, 0}, {0, most, 0}, {0, 0, most}}, api.ErrForm}, {api.Matrix{{1, 1, -most/2 - 1}, {0, 2, most}}, api.ErrForm},
		} {
			l = append(l, wrong{api.Temperament{Primes: p, Commas: c.commas, Mapping: m}, c.e})
		}
	}
	for _, m := range []api.Matrix{
		nil, {}, {{1, 0, -4}}, {{0, 1, 4}}, {{0, 1, 4}, {1, 0, -4}}, {{1, 0, -4}, {0, -1, -4}}, {{-1, 0, 4}, {0, 1, 4}}, {{1, 1, 0}, {0, 1, 4}}, {{1, 0, -4}, {0, 2, 8}}, {{12, 19, 28}, {19, 30, 44}}, {{1, 0, -4}, {0, 1, 4}, {0, 0, 0}},
		{{1, 0, -4}, {0, 1, 4}, {0, 0, 1}}, {{1, 0}, {0, 1}}, {{1, 0, -4, 0}, {0, 1, 4, 0}}, {{1, 0, -4}, {0, 1, 5}}, {{1, 0, -4}, nil}, {{math.MinInt, 0, 0}}, {{4, -4, 1}}, make(api.Matrix, 13),
	} {
		l = append(l, wrong{api.Temperament{Primes: p, Commas: comma, Mapping: m}, api.ErrConflict})
	}
	return append(l,
		wrong{api.Temperament{Primes: p}, api.ErrConflict}, wrong{api.Temperament{Primes: p, Mapping: api.Matrix{{1, 0, 0}, {0, 1, 0}}}, api.ErrConflict},
		wrong{api.Temperament{Primes: p, Commas: api.Matrix{{1, 0, 0}, {0, 1, 0}, {0, 0, 1}}, Mapping: api.Matrix{{0, 0, 1}}}, api.ErrConflict},
		wrong{api.Temperament{Primes: p, Commas: api.Matrix{{1, 0, 0}, {0, 1, 0}, {0, 0, 1}}, Mapping: api.Matrix{{0, 0, 0}}}, api.ErrConflict},
		// This is orthogonal to both commas, but no row of a lattice.
		wrong{api.Temperament{Primes: p, Commas: api.Matrix{{99_991, 0, 3}, {0, 99_989, 5}}, Mapping: api.Matrix{{3 * 99_989, 5 * 99_991, -99_991 * 99_989}}}, api.ErrConflict},
	)
}
