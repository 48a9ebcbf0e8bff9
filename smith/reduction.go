package smith

import (
	"schisma/api"
	"schisma/echelon"
	"schisma/number"
	"schisma/table"
)

// reduction is a matrix that becomes its Smith form, together with both transforms: left times the matrix at first times right is the matrix now. The columns of right are kept as rows.
type reduction struct {
	matrix, left, right []number.Row
}

// reduce returns the Smith form of a right matrix with both transforms.
func reduce(m api.Matrix) *reduction {
	r := begin(m)
	r.mix()
	r.diagonalize()
	r.divide()
	return r
}

// factors returns the invariant factors of a right matrix.
func factors(m api.Matrix) number.Row {
	r := begin(m)
	r.diagonalize()
	r.divide()
	return r.factors()
}

// begin returns a right matrix with transforms that change nothing.
func begin(m api.Matrix) *reduction {
	return &reduction{
		matrix: number.FromMatrix(m),
		left:   number.Identity(len(m)),
		right:  number.Identity(table.Columns(m)),
	}
}

// factors returns what is greater than 0 in the diagonal.
func (r *reduction) factors() number.Row {
	var l number.Row
	for i := range min(len(r.left), len(r.right)) {
		if d := r.matrix[i][i]; !d.IsZero() {
			l = append(l, d)
		}
	}
	return l
}

// diagonalize brings the rows into Hermite normal form, then the columns, and so on, until there is nothing beside the diagonal. In each round the first element becomes a divisor of what it was; when it stays what it is, its row and its column have nothing else, and so it goes on with the next one.
func (r *reduction) diagonalize() {
	for {
		r.matrix, r.left = normal(r.matrix, r.left)
		columns := number.Transpose(r.matrix, len(r.right))
		columns, r.right = normal(columns, r.right)
		r.matrix = number.Transpose(columns, len(r.left))
		if r.isDiagonal() {
			return
		}
	}
}

// normal returns the Hermite normal form of some rows, with rows of zeros behind it, and does the same to the rows of their transform.
func normal(rows, transform []number.Row) (form, with []number.Row) {
	for i, both := range echelon.Form(number.Beside(rows, transform)) {
		width := len(rows[i])
		form = append(form, both[:width])
		with = append(with, both[width:])
	}
	return form, with
}

// isDiagonal reports whether there is nothing beside the diagonal.
func (r *reduction) isDiagonal() bool {
	for i := range len(r.left) {
		for j := range len(r.right) {
			if i != j && !r.matrix[i][j].IsZero() {
				return false
			}
		}
	}
	return true
}

// divide makes each element of the diagonal that is not 0 divide those behind it.
func (r *reduction) divide() {
	rank := len(r.factors())
	for i := range rank {
		for j := i + 1; j < rank; j++ {
			if !r.matrix[i][i].Divides(r.matrix[j][j]) {
				r.merge(i, j)
			}
		}
	}
}

// merge makes two elements a and b of the diagonal their greatest common divisor g and their least common multiple. With a x + b y = g, the rows are multiplied by (x, y), (-b/g, a/g), and the columns by (1, 1), (-y b/g, x a/g).
func (r *reduction) merge(i, j int) {
	a, b := r.matrix[i][i], r.matrix[j][j]
	g, x, y := number.Bezout(a, b)
	p, q := a.Quotient(g), b.Quotient(g)
	one := number.Of(1)
	r.matrix[i][i], r.matrix[j][j] = g, p.Mul(b)
	r.left[i], r.left[j] = sum(x, y, r.left[i], r.left[j]), sum(q.Neg(), p, r.left[i], r.left[j])
	r.right[i], r.right[j] = sum(one, one, r.right[i], r.right[j]), sum(y.Mul(q).Neg(), x.Mul(p), r.right[i], r.right[j])
}

// sum returns the sum of two rows, each times its factor.
func sum(s, t number.Number, a, b number.Row) number.Row {
	return number.Combine(a, b, func(x, y number.Number) number.Number { return x.Mul(s).Add(y.Mul(t)) })
}
