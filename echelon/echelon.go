// Package echelon brings rows of numbers of any size into Hermite normal form. The layers that calculate with lattices, from layer 7 on, use it; what their arguments and results have to be, they say themselves.
package echelon

import (
	"iter"
	"slices"

	"schisma/number"
)

// Form returns the Hermite normal form of the lattice of some rows of the same length. Numbers on the way stay short, as the form of the rows so far is kept from row to row: its numbers are at most as great as the minors of these rows.
func Form(rows []number.Row) []number.Row {
	var form []number.Row
	for _, r := range rows {
		form = insert(form, r)
		reduceAll(form)
	}
	return form
}

// WithMultiples returns the form of the rows beside those of the identity. On the left it has the form of the rows, and then rows of zeros; on the right the multiples whose sum is what stands on the left. So those beside rows of zeros are the form of all multiples whose sum is zero, and the others are reduced modulo them.
func WithMultiples(rows []number.Row) []number.Row {
	return Form(number.Beside(rows, number.Identity(len(rows))))
}

// Kernel returns the form of all multiples of some rows of the same length whose sum is zero.
func Kernel(rows []number.Row) []number.Row {
	var kernel []number.Row
	for column, r := range Pivots(WithMultiples(rows)) {
		if width := len(r) - len(rows); column >= width {
			kernel = append(kernel, r[width:])
		}
	}
	return kernel
}

// Annihilator returns the form of all rows of integers with so many columns whose dot products with some rows are 0. That of the annihilator is the saturation: all rows of integers that are sums of rational multiples of the rows.
func Annihilator(rows []number.Row, columns int) []number.Row {
	return Kernel(number.Transpose(rows, columns))
}

// Pivots yields the columns of the pivots with their rows.
func Pivots(form []number.Row) iter.Seq2[int, number.Row] {
	return func(yield func(column int, r number.Row) bool) {
		for _, r := range form {
			if !yield(r.Pivot(), r) {
				return
			}
		}
	}
}

// Reduce returns the representative of a row modulo a form, and the multiples of the rows of the form that it lacks.
func Reduce(form []number.Row, x number.Row) (rest, multiples number.Row) {
	rest = slices.Clone(x)
	for column, r := range Pivots(form) {
		multiple := rest[column].Quotient(r[column])
		multiples = append(multiples, multiple)
		rest = number.Less(rest, multiple, r)
	}
	return rest, multiples
}

// insert adds a row to the lattice of rows in echelon form, whose pivots are greater than 0. It changes the list.
func insert(form []number.Row, x number.Row) []number.Row {
	for i, r := range form {
		column, place := r.Pivot(), x.Pivot()
		switch {
		case place == column:
			form[i], x = eliminate(r, x, column)
			x, _ = Reduce(form[i+1:], x) // or else it would grow from row to row
		case place >= 0 && place < column:
			return slices.Insert(form, i, positive(x, place))
		}
	}
	if place := x.Pivot(); place >= 0 {
		return append(form, positive(x, place))
	}
	return form
}

// eliminate returns two rows with the same lattice as r and x: the first one has the greatest common divisor of their numbers in the column, and the second one 0.
func eliminate(r, x number.Row, column int) (with, without number.Row) {
	g, fromX, fromR := number.Bezout(x[column], r[column])
	timesR, timesX := x[column].Quotient(g), r[column].Quotient(g)
	with = number.Combine(r, x, func(a, b number.Number) number.Number { return a.Mul(fromR).Add(b.Mul(fromX)) })
	without = number.Combine(r, x, func(a, b number.Number) number.Number { return b.Mul(timesX).Sub(a.Mul(timesR)) })
	return with, without
}

// positive returns a row, or its negative, so that the number in its pivot's column is greater than 0.
func positive(x number.Row, column int) number.Row {
	if x[column].Sign() > 0 {
		return x
	}
	return number.Combine(x, x, func(a, _ number.Number) number.Number { return a.Neg() })
}

// reduceAll reduces each row of rows in echelon form modulo those below it, which are reduced before.
func reduceAll(form []number.Row) {
	for i := len(form) - 1; i >= 0; i-- {
		form[i], _ = Reduce(form[i+1:], form[i])
	}
}
