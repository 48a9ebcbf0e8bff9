package smith

import (
	"schisma/api"
	"schisma/hermite"
	"schisma/number"
	"schisma/table"
)

// Verify returns the error of transforms of a matrix.
func Verify(m, left, right api.Matrix) api.Errno {
	for _, a := range []api.Matrix{m, left, right} {
		if e := table.Check(a); e != api.OK {
			return e
		}
	}
	if !isSquare(left, len(m)) || !isSquare(right, table.Columns(m)) {
		return api.ErrSize
	}
	if !isUnimodular(left) || !isUnimodular(right) || !isForm(product(m, left, right)) {
		return api.ErrCertificate
	}
	return api.OK
}

// isSquare reports whether a matrix has so many rows and columns.
func isSquare(m api.Matrix, n int) bool {
	return len(m) == n && table.Columns(m) == n
}

// isUnimodular reports whether a right matrix is unimodular.
func isUnimodular(m api.Matrix) bool {
	is, e := hermite.Unimodular(m)
	return is && e == api.OK
}

// product returns left times m times right. The product of the first two can be too great for table.Mul, though that of all is not.
func product(m, left, right api.Matrix) []number.Row {
	columns := number.Transpose(number.FromMatrix(right), len(right))
	rows := times(number.FromMatrix(left), number.Transpose(number.FromMatrix(m), len(right)))
	return times(rows, columns)
}

// times returns the dot products of rows with columns.
func times(rows, columns []number.Row) []number.Row {
	out := make([]number.Row, len(rows))
	for i, r := range rows {
		for _, c := range columns {
			out[i] = append(out[i], number.Dot(r, c))
		}
	}
	return out
}

// isForm reports whether rows are in Smith form.
func isForm(rows []number.Row) bool {
	last := number.Of(1)
	for i, r := range rows {
		for j, a := range r {
			if i != j && !a.IsZero() {
				return false
			}
		}
		if i >= len(r) {
			continue
		}
		if d := r[i]; d.Sign() < 0 || !last.Divides(d) {
			return false
		}
		last = r[i]
	}
	return true
}
