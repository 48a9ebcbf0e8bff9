package number

import (
	"slices"

	"schisma/api"
)

// Row is a row of numbers.
type Row []Number

// FromRow returns the numbers of a row.
func FromRow(r api.Row) Row {
	out := make(Row, len(r))
	for i, n := range r {
		out[i] = Of(n)
	}
	return out
}

// FromMatrix returns the numbers of the rows of a matrix.
func FromMatrix(m api.Matrix) []Row {
	rows := make([]Row, len(m))
	for i, r := range m {
		rows[i] = FromRow(r)
	}
	return rows
}

// Entries returns the row of ints that a row of numbers is. Error: ErrLimit if a number cannot be an element of one.
func (r Row) Entries() (api.Row, api.Errno) {
	out := make(api.Row, len(r))
	for i, a := range r {
		n, is := a.Entry()
		if !is {
			return nil, api.ErrLimit
		}
		out[i] = n
	}
	return out, api.OK
}

// Matrix returns the matrix of ints that rows are. Error: ErrLimit if a number cannot be an element of one.
func Matrix(rows []Row) (api.Matrix, api.Errno) {
	m := make(api.Matrix, len(rows))
	for i, r := range rows {
		entries, e := r.Entries()
		if e != api.OK {
			return nil, e
		}
		m[i] = entries
	}
	return m, api.OK
}

// Pivot returns the index of the first number that is not 0, or -1.
func (r Row) Pivot() int {
	return slices.IndexFunc(r, func(a Number) bool { return !a.IsZero() })
}

// Combine returns a row of what is done with the numbers of two rows of the same length.
func Combine(r, s Row, what func(a, b Number) Number) Row {
	out := make(Row, len(r))
	for i, a := range r {
		out[i] = what(a, s[i])
	}
	return out
}

// Less returns r less a multiple of s.
func Less(r Row, multiple Number, s Row) Row {
	if multiple.IsZero() {
		return r
	}
	return Combine(r, s, func(a, b Number) Number { return a.Sub(multiple.Mul(b)) })
}

// Identity returns the rows of the identity matrix.
func Identity(n int) []Row {
	rows := make([]Row, n)
	for i := range n {
		rows[i] = make(Row, n)
		rows[i][i] = Of(1)
	}
	return rows
}

// Beside returns rows that have those of a on the left and those of b on the right.
func Beside(a, b []Row) []Row {
	rows := make([]Row, len(a))
	for i, r := range a {
		rows[i] = slices.Concat(r, b[i])
	}
	return rows
}

// Transpose returns rows with rows and columns exchanged.
func Transpose(rows []Row, columns int) []Row {
	out := make([]Row, columns)
	for j := range columns {
		for _, r := range rows {
			out[j] = append(out[j], r[j])
		}
	}
	return out
}

// Dot returns the sum of the products of two rows of the same length.
func Dot(r, s Row) Number {
	var sum Number
	for i, a := range r {
		sum = sum.Add(a.Mul(s[i]))
	}
	return sum
}

// Content returns the greatest common divisor of the numbers.
func (r Row) Content() Number {
	var content Number
	for _, a := range r {
		content = Gcd(content, a)
	}
	return content
}
