package smith

import (
	"schisma/api"
	"schisma/echelon"
	"schisma/number"
	"schisma/table"
)

// Quotient returns the numbers of elements of the finite cyclic parts of all rows modulo a lattice, and how many infinite ones there are.
func Quotient(m api.Matrix, columns int) (cyclic api.Row, free int, e api.Errno) {
	if e := checkColumns(m, columns); e != api.OK {
		return nil, 0, e
	}
	all := factors(m)
	trivial := 0
	for trivial < len(all) && all[trivial] == number.Of(1) {
		trivial++
	}
	cyclic, e = all[trivial:].Entries()
	if e != api.OK {
		return nil, 0, e
	}
	return cyclic, columns - len(all), api.OK
}

// Order returns the least multiple of a row that belongs to a lattice, if there is one.
func Order(m api.Matrix, x api.Row) (n int, finite bool, e api.Errno) {
	if e := checkRow(m, x); e != api.OK {
		return 0, false, e
	}
	order := number.Of(1)
	rest := number.FromRow(x)
	for column, r := range echelon.Pivots(echelon.Form(number.FromMatrix(m))) {
		// Only multiples of this one have no rest in the column.
		g, _, _ := number.Bezout(rest[column], r[column])
		times, less := r[column].Quotient(g), rest[column].Quotient(g)
		order = order.Mul(times)
		rest = sum(times, less.Neg(), rest, r)
	}
	if rest.Pivot() >= 0 {
		return 0, false, api.OK
	}
	return limited(order)
}

// Exponent returns the least multiple of all rows that belongs to a lattice, if there is one.
func Exponent(m api.Matrix, columns int) (n int, finite bool, e api.Errno) {
	if e := checkColumns(m, columns); e != api.OK {
		return 0, false, e
	}
	all := factors(m)
	switch {
	case len(all) < columns:
		return 0, false, api.OK
	case columns == 0:
		return 1, true, api.OK
	}
	return limited(all[columns-1])
}

// limited returns a number as an int. Error: ErrLimit if it is too great.
func limited(a number.Number) (n int, fits bool, e api.Errno) {
	n, fits = a.Entry()
	if !fits {
		return 0, false, api.ErrLimit
	}
	return n, true, api.OK
}

// checkColumns returns the error of a matrix, and of the number of columns that it must have, if it has rows.
func checkColumns(m api.Matrix, columns int) api.Errno {
	switch e := table.Check(m); {
	case e != api.OK:
		return e
	case columns < 0 || columns > api.MaxColumns:
		return api.ErrRange
	case len(m) > 0 && table.Columns(m) != columns:
		return api.ErrSize
	}
	return api.OK
}
