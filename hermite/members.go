package hermite

import (
	"schisma/api"
	"schisma/echelon"
	"schisma/number"
	"schisma/table"
	"schisma/whole"
)

// Reduce returns the representative of the class of a row modulo a lattice, and the multiples of the rows of the form that it lacks.
func Reduce(form api.Matrix, x api.Row) (rest, multiples api.Row, e api.Errno) {
	if e := checkRow(form, x); e != api.OK {
		return nil, nil, e
	}
	r, m := echelon.Reduce(number.FromMatrix(form), number.FromRow(x))
	if rest, e = r.Entries(); e != api.OK {
		return nil, nil, e
	}
	if multiples, e = m.Entries(); e != api.OK {
		return nil, nil, e
	}
	return rest, multiples, api.OK
}

// Contains reports whether a row belongs to a lattice.
func Contains(form api.Matrix, x api.Row) (bool, api.Errno) {
	if e := checkRow(form, x); e != api.OK {
		return false, e
	}
	_, is := coordinates(form, x)
	return is, api.OK
}

// Coordinates returns the coordinates of a row of a lattice.
func Coordinates(form api.Matrix, x api.Row) (c api.Row, found bool, e api.Errno) {
	if e := checkRow(form, x); e != api.OK {
		return nil, false, e
	}
	multiples, found := coordinates(form, x)
	if !found {
		return nil, false, api.OK
	}
	c, e = multiples.Entries()
	return c, e == api.OK, e
}

// coordinates returns the coordinates of a row, if it belongs to the lattice.
func coordinates(form api.Matrix, x api.Row) (multiples number.Row, found bool) {
	rest, multiples := echelon.Reduce(number.FromMatrix(form), number.FromRow(x))
	return multiples, rest.Pivot() < 0
}

// Includes reports whether a lattice has all rows of a matrix.
func Includes(form, sub api.Matrix) (bool, api.Errno) {
	if e := checkLattices(form, sub); e != api.OK {
		return false, e
	}
	return includes(form, sub), api.OK
}

// Index returns how many classes a lattice has modulo that of the rows of a matrix, if their number is finite.
func Index(form, sub api.Matrix) (n api.Int, finite bool, e api.Errno) {
	if e := checkLattices(form, sub); e != api.OK {
		return "", false, e
	}
	if !includes(form, sub) {
		return "", false, api.ErrConflict
	}
	lattice, part := number.FromMatrix(form), echelon.Form(number.FromMatrix(sub))
	if len(part) < len(lattice) {
		return "", false, api.OK
	}
	return product(part).Quotient(product(lattice)).Int(), true, api.OK
}

// includes reports whether a lattice has all rows of a right matrix.
func includes(form, sub api.Matrix) bool {
	return every(sub, func(r api.Row) bool {
		_, is := coordinates(form, r)
		return is
	})
}

// checkLattices returns the error of a form, and of a matrix whose rows must be as long as its rows.
func checkLattices(form, sub api.Matrix) api.Errno {
	if e := table.Check(form); e != api.OK {
		return e
	}
	if e := table.Check(sub); e != api.OK {
		return e
	}
	switch {
	case !isForm(form):
		return api.ErrForm
	case len(form) > 0 && len(sub) > 0 && table.Columns(form) != table.Columns(sub):
		return api.ErrSize
	}
	return api.OK
}

// product returns the product of the pivots of a form.
func product(form []number.Row) number.Number {
	p := number.Of(1)
	for column, r := range echelon.Pivots(form) {
		p = p.Mul(r[column])
	}
	return p
}

// Unimodular reports whether a matrix is square and the lattice of its rows has all rows of integers.
func Unimodular(m api.Matrix) (bool, api.Errno) {
	if e := table.Check(m); e != api.OK {
		return false, e
	}
	return isUnimodular(m), api.OK
}

// isUnimodular reports the same of a right matrix: the determinant is the number of classes of all rows, but for its sign.
func isUnimodular(m api.Matrix) bool {
	n, e := table.Determinant(m)
	return e == api.OK && whole.Abs(n) == "1"
}
