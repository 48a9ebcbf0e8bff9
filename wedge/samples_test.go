package wedge_test

import (
	"math/big"
	"math/rand/v2"
	"slices"
	"strings"
	"testing"

	"schisma/api"
	"schisma/wedge"
)

const most = api.MaxEntry

// power returns 10 to a power, times a factor.
func power(factor string, exponent int) api.Int {
	return api.Int(factor + strings.Repeat("0", exponent))
}

// multi returns a product with these coordinates.
func multi(dimension, grade int, coordinates ...api.Int) wedge.Multi {
	return wedge.Multi{Dimension: dimension, Grade: grade, Coordinates: coordinates}
}

// choose returns all sets of k of the indices from first below n, in lexicographic order.
func choose(first, n, k int) [][]int {
	if k == 0 {
		return [][]int{{}}
	}
	var l [][]int
	for i := first; i < n; i++ {
		for _, rest := range choose(i+1, n, k-1) {
			l = append(l, append([]int{i}, rest...))
		}
	}
	return l
}

// sign returns that of the permutation that puts a list in order: 1, or -1 if an odd number of pairs is in the wrong order, or 0 if an index is there twice.
func sign(l []int) int {
	s := 1
	for i, a := range l {
		for _, b := range l[i+1:] {
			switch {
			case a == b:
				return 0
			case a > b:
				s = -s
			}
		}
	}
	return s
}

// value is a product in the standard library's integers.
type value struct {
	dimension, grade int
	coordinates      []*big.Int
}

// valueOf returns the value of a right product.
func valueOf(x wedge.Multi) value {
	v := value{x.Dimension, x.Grade, nil}
	for _, a := range x.Coordinates {
		n, ok := new(big.Int).SetString(string(a), 10)
		if !ok || n.String() != string(a) {
			panic("no integer: " + a)
		}
		v.coordinates = append(v.coordinates, n)
	}
	return v
}

// rowValue returns the product of one row.
func rowValue(r api.Row) value {
	v := value{len(r), 1, nil}
	for _, n := range r {
		v.coordinates = append(v.coordinates, big.NewInt(int64(n)))
	}
	return v
}

// multi returns the product of a value.
func (v value) multi() wedge.Multi {
	x := wedge.Multi{Dimension: v.dimension, Grade: v.grade}
	for _, n := range v.coordinates {
		x.Coordinates = append(x.Coordinates, api.Int(n.String()))
	}
	return x
}

// at returns the coordinate of a list of indices: that of the set, with the sign of the permutation that puts the list in order.
func (v value) at(l []int) *big.Int {
	s := sign(l)
	if s == 0 {
		return new(big.Int)
	}
	place := 0
	// Sets that come before it have, at the first place where they differ, a lesser index.
	sorted := slices.Sorted(slices.Values(l))
	for i, next := 0, 0; i < len(sorted); i++ {
		for ; next < sorted[i]; next++ {
			place += int(new(big.Int).Binomial(int64(v.dimension-next-1), int64(v.grade-i-1)).Int64())
		}
		next++
	}
	return new(big.Int).Mul(v.coordinates[place], big.NewInt(int64(s)))
}

// isZero reports whether all coordinates are 0.
func (v value) isZero() bool {
	return !slices.ContainsFunc(v.coordinates, func(n *big.Int) bool { return n.Sign() != 0 })
}

// times returns the wedge product, by the definition.
func (v value) times(w value) value {
	p := value{v.dimension, v.grade + w.grade, nil}
	for _, set := range choose(0, p.dimension, p.grade) {
		sum := new(big.Int)
		for _, chosen := range choose(0, p.grade, v.grade) {
			var first, second []int
			for i, index := range set {
				if slices.Contains(chosen, i) {
					first = append(first, index)
				} else {
					second = append(second, index)
				}
			}
			n := new(big.Int).Mul(v.at(first), w.at(second))
			sum.Add(sum, n.Mul(n, big.NewInt(int64(sign(slices.Concat(first, second))))))
		}
		p.coordinates = append(p.coordinates, sum)
	}
	return p
}

// equations returns, for each index, the coordinates of the product of its unit row and a product.
func (v value) equations() [][]*big.Int {
	var out [][]*big.Int
	for i := range v.dimension {
		unit := make(api.Row, v.dimension)
		unit[i] = 1
		out = append(out, rowValue(unit).times(v).coordinates)
	}
	return out
}

// rank returns the number of independent rows.
func rank(rows [][]*big.Int) int {
	var left [][]*big.Rat
	for _, r := range rows {
		var copied []*big.Rat
		for _, n := range r {
			copied = append(copied, new(big.Rat).SetInt(n))
		}
		left = append(left, copied)
	}
	found := 0
	for len(left) > 0 {
		r := left[0]
		left = left[1:]
		column := slices.IndexFunc(r, func(n *big.Rat) bool { return n.Sign() != 0 })
		if column < 0 {
			continue
		}
		found++
		for _, s := range left {
			factor := new(big.Rat).Quo(s[column], r[column])
			for j := range s {
				s[j] = new(big.Rat).Sub(s[j], new(big.Rat).Mul(factor, r[j]))
			}
		}
	}
	return found
}

// kernelOf returns the normal form of all multiples of rows whose sum is zero.
func kernelOf(rows [][]*big.Int) [][]*big.Int {
	var beside [][]*big.Int
	width := 0
	for i, r := range rows {
		unit := make(api.Row, len(rows))
		unit[i] = 1
		width = len(r)
		beside = append(beside, slices.Concat(r, rowValue(unit).coordinates))
	}
	var kernel [][]*big.Int
	for _, r := range formOf(beside, width+len(rows)) {
		if !slices.ContainsFunc(r[:width], func(n *big.Int) bool { return n.Sign() != 0 }) {
			kernel = append(kernel, r[width:])
		}
	}
	return kernel
}

// formOf returns the normal form of rows, which it changes: in each column the rows below are divided by each other until one is left, by which those above are.
func formOf(rows [][]*big.Int, columns int) [][]*big.Int {
	rank := 0
	for column := range columns {
		for i := rank + 1; i < len(rows); i++ {
			for rows[i][column].Sign() != 0 {
				subtract(rows[rank], rows[i], column)
				rows[rank], rows[i] = rows[i], rows[rank]
			}
		}
		if rank == len(rows) || rows[rank][column].Sign() == 0 {
			continue
		}
		if rows[rank][column].Sign() < 0 {
			for _, n := range rows[rank] {
				n.Neg(n)
			}
		}
		for i := range rank {
			subtract(rows[i], rows[rank], column)
		}
		rank++
	}
	return rows[:rank]
}

// subtract takes the multiple of a row away from another one that leaves a remainder in a column.
func subtract(r, s []*big.Int, column int) {
	quotient := new(big.Int).Div(r[column], s[column]) // downward if the divisor is greater than 0
	for j, n := range s {
		r[j].Sub(r[j], new(big.Int).Mul(quotient, n))
	}
}

// isRight reports whether all integers can be elements of a row.
func isRight(l []*big.Int) bool {
	return !slices.ContainsFunc(l, func(n *big.Int) bool { return n.CmpAbs(big.NewInt(most)) > 0 })
}

// equal reports whether a row has these integers.
func equal(x api.Row, l []*big.Int) bool {
	return slices.EqualFunc(x, l, func(n int, b *big.Int) bool { return b.Cmp(big.NewInt(int64(n))) == 0 })
}

// same reports whether two matrices are equal.
func same(a, b api.Matrix) bool {
	return slices.EqualFunc(a, b, func(x, y api.Row) bool { return slices.Equal(x, y) })
}

// random returns a matrix with elements up to a bound, without the sign.
func random(r *rand.Rand, rows, columns, bound int) api.Matrix {
	m := make(api.Matrix, rows)
	for i := range m {
		m[i] = make(api.Row, columns)
		for j := range m[i] {
			m[i][j] = r.IntN(2*bound+1) - bound
		}
	}
	return m
}

// filled returns a matrix of equal elements.
func filled(rows, columns, n int) api.Matrix {
	m := make(api.Matrix, rows)
	for i := range m {
		m[i] = slices.Repeat(api.Row{n}, columns)
	}
	return m
}

// anyProduct returns a right product with coordinates of so many digits, some of which are 0.
func anyProduct(r *rand.Rand, dimension, grade, digits int) wedge.Multi {
	v := value{dimension, grade, nil}
	bound := new(big.Int).Exp(big.NewInt(10), big.NewInt(int64(digits)), nil)
	for range choose(0, dimension, grade) {
		n := new(big.Int)
		if r.IntN(4) > 0 {
			n.Lsh(big.NewInt(int64(r.Uint64()>>1)), uint(digits*4)).Mod(n, bound)
			n.Add(n, big.NewInt(r.Int64N(10))).Mod(n, bound)
		}
		if r.IntN(2) == 0 {
			n.Neg(n)
		}
		v.coordinates = append(v.coordinates, n)
	}
	return v.multi()
}

// rowProduct returns the product of random rows, all coordinates times a factor, by the definition.
func rowProduct(r *rand.Rand, dimension, grade, bound, factor int) wedge.Multi {
	v := value{dimension, 0, []*big.Int{big.NewInt(int64(factor))}}
	for _, x := range random(r, grade, dimension, bound) {
		v = v.times(rowValue(x))
	}
	return v.multi()
}

// products returns right products, among them those of all grades, decomposable ones and others, long numbers and zeros.
func products() []wedge.Multi {
	l := []wedge.Multi{
		multi(0, 0, "1"), multi(0, 0, "0"), multi(0, 0, "-7"), multi(1, 1, "0"), multi(1, 1, "-3"), multi(1, 0, "5"), multi(12, 12, "-2"), multi(12, 0, "1"),
		multi(3, 2, "1", "4", "4"), multi(3, 1, "0", "-4", "6"), multi(4, 2, "1", "0", "0", "0", "0", "1"), multi(4, 2, "0", "0", "0", "0", "0", "0"), multi(4, 2, "0", "0", "-6", "0", "9", "3"),
		multi(2, 1, power("-9", 399), power("3", 399)), multi(2, 0, power("-1", 399)), multi(3, 2, power("2", 399), "0", power("-4", 399)),
	}
	r := rand.New(rand.NewPCG(10, 1))
	for dimension := range 6 {
		for grade := range dimension + 1 {
			for _, digits := range []int{1, 3, 12, 40} {
				l = append(l, anyProduct(r, dimension, grade, digits))
			}
			for _, bound := range []int{1, 4, 30, most} {
				l = append(l, rowProduct(r, dimension, grade, bound, r.IntN(13)-6))
			}
		}
	}
	return l
}

// isLong reports whether a product has numbers with which those on the way can be too long.
func isLong(x wedge.Multi) bool {
	return slices.ContainsFunc(x.Coordinates, func(a api.Int) bool { return len(a) > 310 })
}

// wrongProduct is one that is not right, with its error.
type wrongProduct struct {
	x wedge.Multi
	e api.Errno
}

// wrongProducts returns products with each error, and with several, of which the first one counts.
func wrongProducts() []wrongProduct {
	l := []wrongProduct{
		{multi(-1, 0, "1"), api.ErrRange},
		{multi(13, 0, "1"), api.ErrRange},
		{multi(-1<<63, -1<<63), api.ErrRange},
		{multi(1<<63-1, 1<<63-1, "1"), api.ErrRange},
		{multi(3, -1), api.ErrRange},
		{multi(3, 4), api.ErrRange},
		{multi(3, 1<<63-1), api.ErrRange},
		{multi(0, 1), api.ErrRange},
		{multi(3, 4, "01"), api.ErrRange},
		{multi(0, 0), api.ErrSize},
		{multi(0, 0, "1", "1"), api.ErrSize},
		{multi(2, 1), api.ErrSize},
		{multi(2, 1, "1"), api.ErrSize},
		{multi(2, 1, "x", "01", "1"), api.ErrSize},
		{multi(12, 6, "1"), api.ErrSize},
		{multi(2, 1, "1", power("1", 400)), api.ErrNumber},
		{multi(2, 1, power("-1", 400), "1"), api.ErrNumber},
	}
	for _, a := range []api.Int{"", "01", "-0", "+1", "-", "1e3", " 1", "1 ", "0x1", "1.0", "--1", "00", "٣"} {
		l = append(l, wrongProduct{multi(3, 1, "1", "0", a), api.ErrNumber})
	}
	return l
}

// expect checks that a product is the one of a value.
func expect(t *testing.T, what string, got wedge.Multi, e api.Errno, want value) {
	t.Helper()
	if e != api.OK || !wedge.Equal(got, want.multi()) || wedge.Check(got) != api.OK {
		t.Errorf("%s = %v, %d, not %v", what, got, e, want)
	}
}
