package hermite

import (
	"schisma/api"
	"schisma/echelon"
	"schisma/number"
	"schisma/row"
	"schisma/table"
)

// Transform returns a unimodular matrix whose product with m has the rows of the form of m, and then rows of zeros.
//
// Its last rows, those for rows of zeros, are in normal form, and the others are reduced modulo them, which keeps the elements small.
func Transform(m api.Matrix) (api.Matrix, api.Errno) {
	if e := table.Check(m); e != api.OK {
		return nil, e
	}
	transform := make([]number.Row, len(m))
	for i, r := range echelon.WithMultiples(number.FromMatrix(m)) {
		// An element of the form that is too great is an error, too.
		if _, e := r.Entries(); e != api.OK {
			return nil, e
		}
		transform[i] = r[table.Columns(m):]
	}
	return number.Matrix(transform)
}

// Verify returns the error of a form of m, and of a transform for it.
func Verify(m, form, transform api.Matrix) api.Errno {
	for _, a := range []api.Matrix{m, form, transform} {
		if e := table.Check(a); e != api.OK {
			return e
		}
	}
	if len(transform) != len(m) || table.Columns(transform) != len(m) {
		return api.ErrSize
	}
	product, e := table.Mul(transform, m)
	// A product that is too great is not that of the form, whose elements are right.
	if e != api.OK || !isUnimodular(transform) || !isForm(form) || !isPadded(product, form) {
		return api.ErrCertificate
	}
	return api.OK
}

// isPadded reports whether a matrix has the rows of a form, and then rows of zeros.
func isPadded(m, form api.Matrix) bool {
	n := len(form)
	return len(m) >= n && table.Equal(m[:n], form) && every(m[n:], row.IsZero)
}
