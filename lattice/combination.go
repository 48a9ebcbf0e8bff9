package lattice

import (
	"slices"

	"schisma/api"
	"schisma/echelon"
	"schisma/number"
	"schisma/smith"
)

// Sum returns the least lattice that contains both.
func Sum(a, b Lattice) (Lattice, api.Errno) {
	if e := checkPair(a, b); e != api.OK {
		return Lattice{}, e
	}
	return limited(a.Columns, echelon.Form(slices.Concat(a.numbers(), b.numbers())))
}

// Intersect returns the lattice of the rows that belong to both.
//
// Each row of a is written twice, side by side, and each row of b beside zeros. So where a sum of all these has zeros on the left, a row of a and one of b add up to zero, and what it has on the right, the row of a, belongs to both.
func Intersect(a, b Lattice) (Lattice, api.Errno) {
	if e := checkPair(a, b); e != api.OK {
		return Lattice{}, e
	}
	first, second := a.numbers(), b.numbers()
	zeros := make([]number.Row, len(second))
	for i := range zeros {
		zeros[i] = make(number.Row, b.Columns)
	}
	double := slices.Concat(number.Beside(first, first), number.Beside(second, zeros))
	var both []number.Row
	for column, r := range echelon.Pivots(echelon.Form(double)) {
		if column >= a.Columns {
			both = append(both, r[a.Columns:])
		}
	}
	return limited(a.Columns, both)
}

// Saturate returns all integer rows of the rational span.
func Saturate(l Lattice) (Lattice, api.Errno) {
	if e := Check(l); e != api.OK {
		return Lattice{}, e
	}
	annihilator := echelon.Annihilator(l.numbers(), l.Columns)
	return limited(l.Columns, echelon.Annihilator(annihilator, l.Columns))
}

// Annihilator returns all rows whose dot products with the lattice are 0.
func Annihilator(l Lattice) (Lattice, api.Errno) {
	if e := Check(l); e != api.OK {
		return Lattice{}, e
	}
	return limited(l.Columns, echelon.Annihilator(l.numbers(), l.Columns))
}

// Index returns how many classes the saturation has modulo the lattice: the product of the invariant factors.
func Index(l Lattice) (int, api.Errno) {
	if e := Check(l); e != api.OK {
		return 0, e
	}
	factors, e := smith.Factors(l.Basis)
	if e != api.OK {
		return 0, e
	}
	index := 1
	for _, factor := range factors {
		index *= factor
		// Two numbers that are not too great have a product with room in an int.
		if index > api.MaxEntry {
			return 0, api.ErrLimit
		}
	}
	return index, api.OK
}
