package wedge

import (
	"iter"

	"schisma/api"
	"schisma/number"
)

// vector is a product whose coordinates are found by their sets; those that are not in the map are 0.
type vector struct {
	dimension, grade int
	coordinates      map[set]number.Number
}

// zero returns a product whose coordinates are all 0.
func zero(dimension, grade int) vector {
	return vector{dimension, grade, map[set]number.Number{}}
}

// line returns the product of one row.
func line(r number.Row) vector {
	v := zero(len(r), 1)
	for i, a := range r {
		v.coordinates[single(i)] = a
	}
	return v
}

// vectorOf returns the vector of a right product.
func vectorOf(x Multi) vector {
	v := zero(x.Dimension, x.Grade)
	i := 0
	for s := range sets(x.Dimension, x.Grade) {
		v.coordinates[s] = number.From(x.Coordinates[i])
		i++
	}
	return v
}

// multi returns the product of a vector whose numbers are not too long.
func (v vector) multi() Multi {
	x := Multi{Dimension: v.dimension, Grade: v.grade}
	for _, a := range v.all() {
		x.Coordinates = append(x.Coordinates, a.Int())
	}
	return x
}

// all yields the sets, in order, with their coordinates.
func (v vector) all() iter.Seq2[set, number.Number] {
	return func(yield func(s set, a number.Number) bool) {
		for s := range sets(v.dimension, v.grade) {
			if !yield(s, v.coordinates[s]) {
				return
			}
		}
	}
}

// first returns the first set whose coordinate is not 0, if there is one.
func (v vector) first() (s set, found bool) {
	for s, a := range v.all() {
		if !a.IsZero() {
			return s, true
		}
	}
	return 0, false
}

// isZero reports whether all coordinates are 0.
func (v vector) isZero() bool {
	_, found := v.first()
	return !found
}

// content returns the greatest common divisor of all coordinates.
func (v vector) content() number.Number {
	var content number.Number
	for _, a := range v.all() {
		content = number.Gcd(content, a)
	}
	return content
}

// add adds a term to the coordinate of a set. Error: ErrNumber if the term has too many digits.
func (v vector) add(s set, term number.Number) api.Errno {
	v.coordinates[s] = v.coordinates[s].Add(term)
	return term.Check()
}

// check returns ErrNumber if a coordinate has too many digits.
func (v vector) check() api.Errno {
	for _, a := range v.all() {
		if e := a.Check(); e != api.OK {
			return e
		}
	}
	return api.OK
}

// signed returns a number with the sign of the permutation that puts a set, and another one behind it, into order.
func signed(a number.Number, first, second set) number.Number {
	if isOdd(first, second) {
		return a.Neg()
	}
	return a
}
