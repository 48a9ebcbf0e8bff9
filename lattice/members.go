package lattice

import (
	"schisma/api"
	"schisma/echelon"
	"schisma/hermite"
	"schisma/number"
)

// Contains reports whether a row belongs to a lattice.
func Contains(l Lattice, r api.Row) (bool, api.Errno) {
	if e := checkRow(l, r); e != api.OK {
		return false, e
	}
	return hermite.Contains(l.Basis, r)
}

// Within reports whether all rows of a belong to b.
func Within(a, b Lattice) (bool, api.Errno) {
	if e := checkPair(a, b); e != api.OK {
		return false, e
	}
	return hermite.Includes(b.Basis, a.Basis)
}

// Coordinates returns the multiples of the rows of the basis whose sum is a row.
func Coordinates(l Lattice, r api.Row) (api.Row, api.Errno) {
	if e := checkRow(l, r); e != api.OK {
		return nil, e
	}
	c, found, e := hermite.Coordinates(l.Basis, r)
	switch {
	case e != api.OK:
		return nil, e
	case !found:
		return nil, api.ErrNone
	}
	return c, api.OK
}

// Represent returns the canonical row of the class of a row. (hermite.Reduce returns the multiples, too, which can be too great where the row is not.)
func Represent(l Lattice, r api.Row) (api.Row, api.Errno) {
	if e := checkRow(l, r); e != api.OK {
		return nil, e
	}
	rest, _ := echelon.Reduce(l.numbers(), number.FromRow(r))
	return rest.Entries()
}
