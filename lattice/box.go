package lattice

import (
	"slices"

	"schisma/api"
	"schisma/number"
)

// Box returns all rows of a lattice whose elements are from -most to most.
func Box(l Lattice, most int) ([]api.Row, api.Errno) {
	if e := Check(l); e != api.OK {
		return nil, e
	}
	if most < 0 {
		return nil, api.ErrRange
	}
	if number.BoxExceeds(most, len(l.Basis), MaxBox) {
		return nil, api.ErrLimit
	}
	b := box{most: most, steps: l.steps()}
	b.search(make(api.Row, l.Columns), 0)
	return b.found, api.OK
}

// step is a row of a basis with the columns that are settled as soon as its multiple is chosen: those from its pivot on, up to the next one.
type step struct {
	row         api.Row
	pivot, next int
}

// steps returns the steps of all rows of the basis.
func (l Lattice) steps() []step {
	var steps []step
	for column, r := range l.pivots() {
		if last := len(steps) - 1; last >= 0 {
			steps[last].next = column
		}
		steps = append(steps, step{r, column, l.Columns})
	}
	return steps
}

// box is a search for the rows of a lattice with small elements.
type box struct {
	most  int
	steps []step
	found []api.Row
}

// search finds the rows that are a sum of multiples of the rows before the i-th one, and of any multiples of the others. These are tried from the least one on, so that the rows come in lexicographic order.
func (b *box) search(sum api.Row, i int) {
	if i == len(b.steps) {
		b.found = append(b.found, sum)
		return
	}
	s := b.steps[i]
	size := s.row[s.pivot]
	for n := divideUp(-b.most-sum[s.pivot], size); n*size+sum[s.pivot] <= b.most; n++ {
		next := plus(sum, n, s.row)
		if b.holds(next[s.pivot+1 : s.next]) {
			b.search(next, i+1)
		}
	}
}

// holds reports whether all elements are small enough.
func (b *box) holds(part api.Row) bool {
	return !slices.ContainsFunc(part, func(n int) bool { return n < -b.most || n > b.most })
}

// plus returns a row plus a multiple of another one. In a box with few candidates both are so small that the sums have room.
func plus(r api.Row, multiple int, other api.Row) api.Row {
	sum := make(api.Row, len(r))
	for i, n := range r {
		sum[i] = n + multiple*other[i]
	}
	return sum
}

// divideUp returns n divided by a number greater than 0, rounded up.
func divideUp(n, divisor int) int {
	quotient := n / divisor
	if quotient*divisor < n {
		quotient++
	}
	return quotient
}
