package smith

import (
	"schisma/api"
	"schisma/echelon"
	"schisma/number"
	"schisma/row"
	"schisma/table"
)

// Solve returns multiples of the rows whose sum is b, reduced modulo those whose sum is zero.
func Solve(m api.Matrix, b api.Row) (multiples api.Row, found bool, e api.Errno) {
	if e := checkRow(m, b); e != api.OK {
		return nil, false, e
	}
	// Rows of the lattice that are added until nothing is left of the negative of b leave their multiples beside it; then what is beside rows of zeros reduces these.
	negative := number.Less(make(number.Row, len(b)), number.Of(1), number.FromRow(b))
	form := echelon.WithMultiples(number.FromMatrix(m))
	rest, _ := echelon.Reduce(form, append(negative, make(number.Row, len(m))...))
	if rest[:len(b)].Pivot() >= 0 {
		return nil, false, api.OK
	}
	multiples, e = rest[len(b):].Entries()
	return multiples, e == api.OK, e
}

// Kernel returns the form of all multiples of the rows whose sum is zero.
func Kernel(m api.Matrix) (api.Matrix, api.Errno) {
	if e := table.Check(m); e != api.OK {
		return nil, e
	}
	return number.Matrix(echelon.Kernel(number.FromMatrix(m)))
}

// checkRow returns the error of a matrix, and of a row that must have as many elements as its rows.
func checkRow(m api.Matrix, x api.Row) api.Errno {
	if e := table.Check(m); e != api.OK {
		return e
	}
	if e := row.Check(x); e != api.OK {
		return e
	}
	if len(m) > 0 && len(x) != table.Columns(m) {
		return api.ErrSize
	}
	return api.OK
}
