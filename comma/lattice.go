package comma

import (
	"slices"

	"schisma/api"
	"schisma/hermite"
	"schisma/logarithm"
	"schisma/monzo"
	"schisma/number"
	"schisma/row"
	"schisma/table"
)

// In returns the intervals that belong to a lattice.
func In(q Question, form api.Matrix) ([]api.Row, api.Errno) {
	if e := q.checkForm(form); e != api.OK {
		return nil, e
	}
	return q.only(func(x api.Row) bool {
		is, _ := hermite.Contains(form, x)
		return is
	})
}

// Least returns the first interval that belongs to a lattice.
func Least(q Question, form api.Matrix) (x api.Row, found bool, e api.Errno) {
	l, e := In(q, form)
	if len(l) == 0 {
		return nil, false, e
	}
	return l[0], true, api.OK
}

// checkForm returns the error of a question and of a lattice.
func (q Question) checkForm(form api.Matrix) api.Errno {
	if e := Check(q); e != api.OK {
		return e
	}
	is, e := hermite.IsForm(form)
	switch {
	case e != api.OK:
		return e
	case !is:
		return api.ErrForm
	case len(form) > 0 && table.Columns(form) != len(q.Primes):
		return api.ErrSize
	}
	return api.OK
}

// Combine returns the sums of some intervals, each taken from -most to most times, that are greater than 1.
func Combine(p api.Primes, l []api.Row, most int) ([]api.Row, api.Errno) {
	if e := monzo.CheckAll(p, l); e != api.OK {
		return nil, e
	}
	if most < 0 {
		return nil, api.ErrRange
	}
	if number.BoxExceeds(most, len(l), MaxBox) {
		return nil, api.ErrLimit
	}
	sums := combinations(len(p), l, most)
	if e := monzo.CheckAll(p, sums); e != api.OK {
		return nil, e
	}
	unison := make(api.Row, len(p))
	sums = slices.DeleteFunc(sums, func(x api.Row) bool { return logarithm.Compare(p, x, unison) <= 0 })
	slices.SortFunc(sums, row.Compare)
	return slices.CompactFunc(sums, row.Equal), api.OK
}

// combinations returns the sum of some rows of n elements for each way to choose how often each one is taken.
func combinations(n int, l []api.Row, most int) []api.Row {
	sums := []api.Row{make(api.Row, n)}
	for _, x := range l {
		var longer []api.Row
		for _, sum := range sums {
			for k := -most; k <= most; k++ {
				// With so few combinations no element is too great for a row.
				next, _ := row.Combine([]api.Row{sum, x}, api.Row{1, k})
				longer = append(longer, next)
			}
		}
		sums = longer
	}
	return sums
}
