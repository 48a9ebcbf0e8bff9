package wedge

import (
	"schisma/api"
	"schisma/echelon"
	"schisma/number"
)

// Decomposable reports whether a product is a multiple of one of rows.
func Decomposable(x Multi) (bool, api.Errno) {
	if e := Check(x); e != api.OK {
		return false, e
	}
	return vectorOf(x).canonical().isDecomposable()
}

// Lattice returns the normal form of the rows whose product with a decomposable product is 0.
func Lattice(x Multi) (api.Matrix, api.Errno) {
	if e := Check(x); e != api.OK {
		return nil, e
	}
	v := vectorOf(x).canonical()
	if v.isZero() {
		return nil, api.ErrZero
	}
	is, e := v.isDecomposable()
	switch {
	case e != api.OK:
		return nil, e
	case !is:
		return nil, api.ErrForm
	}
	annihilator := echelon.Annihilator(v.span(), v.dimension)
	return number.Matrix(echelon.Annihilator(annihilator, v.dimension))
}

// isDecomposable reports whether a product is decomposable: whether the rows of its span belong to its lattice. Of the least and the greatest grades all products are, however long their numbers are. Error: ErrNumber if a product of coordinates, or a sum of them, has too many digits.
func (v vector) isDecomposable() (bool, api.Errno) {
	if v.grade <= 1 || v.grade >= v.dimension-1 {
		return true, api.OK
	}
	for _, r := range v.span() {
		p, e := times(line(r), v)
		if e != api.OK || !p.isZero() {
			return false, e
		}
	}
	return true, api.OK
}

// span returns as many linearly independent rows as the grade of a product that is not 0. In place of one index of the first set whose coordinate is not 0, they have each index in turn: so these are interior products with rows, and belong to the lattice if the product is decomposable.
func (v vector) span() []number.Row {
	first, _ := v.first()
	var rows []number.Row
	for index := range first.indices() {
		rest := first &^ single(index)
		r := make(number.Row, v.dimension)
		for i := range r {
			if rest&single(i) == 0 {
				r[i] = signed(v.coordinates[rest|single(i)], single(i), rest)
			}
		}
		rows = append(rows, r)
	}
	return rows
}
