package table

import (
	"slices"

	"schisma/api"
	"schisma/fraction"
	"schisma/number"
	"schisma/row"
)

// Inverse returns the inverse matrix.
func Inverse(m api.Matrix) ([][]api.Rational, api.Errno) {
	if e := checkSquare(m); e != api.OK {
		return nil, e
	}
	n := len(m)
	done := eliminate(number.Beside(number.FromMatrix(m), number.Identity(n)), n, true)
	if done.rank() < n {
		return nil, api.ErrDependent
	}
	inverse := make([][]api.Rational, n)
	for i, r := range done.rows {
		for _, a := range r[n:] {
			inverse[i] = append(inverse[i], done.over(a))
		}
	}
	return inverse, api.OK
}

// Solve returns the first solution of linear equations, and the kind of their system.
func Solve(m api.Matrix, right api.Row) (x []api.Rational, kind int, e api.Errno) {
	if e := Check(m); e != api.OK {
		return nil, 0, e
	}
	if len(right) != len(m) {
		return nil, 0, api.ErrSize
	}
	if e := row.Check(right); e != api.OK {
		return nil, 0, e
	}
	x, kind = solve(m, right)
	return x, kind, api.OK
}

// solve returns the same for right arguments.
func solve(m api.Matrix, right api.Row) (x []api.Rational, kind int) {
	columns := Columns(m)
	rows := number.FromMatrix(m)
	for i, n := range right {
		rows[i] = append(rows[i], number.Of(n))
	}
	done := eliminate(rows, columns, true)
	if slices.ContainsFunc(done.rows[done.rank():], func(r number.Row) bool { return !r[columns].IsZero() }) {
		return nil, None
	}
	x = slices.Repeat([]api.Rational{{Num: "0", Den: "1"}}, columns)
	for i, column := range done.pivots {
		x[column] = done.over(done.rows[i][columns])
	}
	if done.rank() < columns {
		return x, Many
	}
	return x, One
}

// over returns a number divided by the pivot that all rows have in common.
func (e *elimination) over(a number.Number) api.Rational {
	quotient, _ := fraction.New(a.Int(), e.last.Int())
	return quotient
}
