package temperament

import (
	"slices"

	"schisma/api"
	"schisma/lattice"
	"schisma/number"
	"schisma/row"
)

// checkWith returns the error of a temperament and of intervals.
func checkWith(t api.Temperament, l ...api.Row) api.Errno {
	if e := Check(t); e != api.OK {
		return e
	}
	return row.CheckAll(l, len(t.Primes))
}

// Temper returns the tempered interval of an interval.
func Temper(t api.Temperament, x api.Row) (api.Row, api.Errno) {
	if e := checkWith(t, x); e != api.OK {
		return nil, e
	}
	return temper(t, x).Entries()
}

// temper returns the tempered interval, however great it is.
func temper(t api.Temperament, x api.Row) number.Row {
	tempered := make(number.Row, len(t.Mapping))
	for i, r := range t.Mapping {
		tempered[i] = number.Dot(number.FromRow(r), number.FromRow(x))
	}
	return tempered
}

// TempersOut reports whether an interval is tempered out.
func TempersOut(t api.Temperament, x api.Row) (bool, api.Errno) {
	if e := checkWith(t, x); e != api.OK {
		return false, e
	}
	return temper(t, x).Pivot() < 0, api.OK
}

// Identified reports whether two intervals have the same tempered interval.
func Identified(t api.Temperament, x, y api.Row) (bool, api.Errno) {
	if e := checkWith(t, x, y); e != api.OK {
		return false, e
	}
	return slices.Equal(temper(t, x), temper(t, y)), api.OK
}

// Represent returns the representative of all intervals that are identified with one.
func Represent(t api.Temperament, x api.Row) (api.Row, api.Errno) {
	if e := checkWith(t, x); e != api.OK {
		return nil, e
	}
	return lattice.Represent(commasOf(t), x)
}
