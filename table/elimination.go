package table

import (
	"slices"

	"schisma/api"
	"schisma/number"
)

// elimination brings rows into echelon form in place, without fractions: all numbers are minors of the rows, so that they stay short.
type elimination struct {
	rows   []number.Row
	pivots []int         // the columns of the pivots; their rows are the first ones
	last   number.Number // the minor of the rows and columns of the pivots: 1 at first
	odd    bool          // whether rows were exchanged an odd number of times
}

// eliminate looks for pivots in the first columns of the rows, and makes the numbers below them 0; if all are wanted, also those above them, and then all pivots are equal.
func eliminate(rows []number.Row, columns int, all bool) *elimination {
	e := &elimination{rows: slices.Clone(rows), last: number.Of(1)}
	for column := range columns {
		e.step(column, all)
	}
	return e
}

// rank returns the number of pivots.
func (e *elimination) rank() int {
	return len(e.pivots)
}

// step looks for a pivot in a column, and makes the other numbers of the column 0: those below it, or all.
func (e *elimination) step(column int, all bool) {
	top := e.rank()
	found := slices.IndexFunc(e.rows[top:], func(r number.Row) bool { return !r[column].IsZero() })
	if found < 0 {
		return
	}
	if found > 0 {
		e.rows[top], e.rows[top+found] = e.rows[top+found], e.rows[top]
		e.odd = !e.odd
	}
	pivot := e.rows[top][column]
	for i, r := range e.rows {
		if i > top || all && i < top {
			e.rows[i] = number.Combine(r, e.rows[top], e.crosswise(pivot, r[column]))
		}
	}
	e.pivots = append(e.pivots, column)
	e.last = pivot
}

// crosswise returns what is to be done with the numbers of a row and of that of the pivot, so that factor, which stands in the column of the pivot, becomes 0. The division has no remainder: the result is a minor of one row more.
func (e *elimination) crosswise(pivot, factor number.Number) func(a, b number.Number) number.Number {
	last := e.last
	return func(a, b number.Number) number.Number {
		return a.Mul(pivot).Sub(b.Mul(factor)).Quotient(last)
	}
}

// determinant returns the determinant of a square matrix.
func determinant(rows []number.Row) number.Number {
	done := eliminate(rows, len(rows), false)
	switch {
	case done.rank() < len(rows):
		return number.Number{}
	case done.odd:
		return done.last.Neg()
	}
	return done.last
}

// Determinant returns the determinant.
func Determinant(m api.Matrix) (api.Int, api.Errno) {
	if e := checkSquare(m); e != api.OK {
		return "", e
	}
	return determinant(number.FromMatrix(m)).Int(), api.OK
}

// Rank returns the greatest number of linearly independent rows.
func Rank(m api.Matrix) (int, api.Errno) {
	if e := Check(m); e != api.OK {
		return 0, e
	}
	return eliminate(number.FromMatrix(m), Columns(m), false).rank(), api.OK
}

// checkSquare returns the error of a matrix that must be square.
func checkSquare(m api.Matrix) api.Errno {
	if e := Check(m); e != api.OK {
		return e
	}
	if len(m) != Columns(m) {
		return api.ErrSize
	}
	return api.OK
}
