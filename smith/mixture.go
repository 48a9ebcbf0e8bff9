package smith

import "schisma/number"

// farthest is the greatest multiple of a column that is tried. Each prime number that divides what the columns have in common rules out one of as many neighbouring multiples as it is great, so that one of the first few does.
const farthest = 50

// mix adds small multiples of the columns behind it to each column, so that the pivots of the rows become the invariant factors. Then the columns need nothing but multiples of these to be taken away, and both transforms stay short. Where no small multiple will do, they become longer, but not wrong.
func (r *reduction) mix() {
	for i := range min(len(r.left), len(r.right)) {
		r.matrix, r.left = normal(r.matrix, r.left)
		columns := number.Transpose(r.matrix, len(r.right))
		for j := i + 1; j < len(columns); j++ {
			multiple := mixing(columns[i][i:], columns[j][i:])
			columns[i] = number.Less(columns[i], multiple, columns[j])
			r.right[i] = number.Less(r.right[i], multiple, r.right[j])
		}
		r.matrix = number.Transpose(columns, len(r.left))
	}
}

// mixing returns the first small multiple of a column for which the other one without it has the content that both have together, or 0.
func mixing(column, other number.Row) number.Number {
	wanted := number.Gcd(column.Content(), other.Content())
	for n := range farthest + 1 {
		for _, multiple := range []number.Number{number.Of(n), number.Of(-n)} {
			if number.Less(column, multiple, other).Content() == wanted {
				return multiple
			}
		}
	}
	return number.Number{}
}
