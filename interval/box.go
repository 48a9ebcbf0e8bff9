package interval

import (
	"iter"
	"slices"

	"schisma/api"
	"schisma/logarithm"
	"schisma/monzo"
	"schisma/prime"
)

// Box is a set of intervals: all exponents from -Most to Most, and sizes from that of Low up to, but not including, that of High.
type Box struct {
	Primes    api.Primes
	Most      int
	Low, High api.Row
}

// check returns the error of a box.
func (b Box) check() api.Errno {
	if e := prime.Check(b.Primes); e != api.OK {
		return e
	}
	if b.Most < 0 || b.Most > MaxBox {
		return api.ErrRange
	}
	return monzo.CheckAll(b.Primes, []api.Row{b.Low, b.High})
}

// List returns the intervals of a box in order.
func List(b Box) ([]api.Row, api.Errno) {
	if e := b.check(); e != api.OK {
		return nil, e
	}
	var found []api.Row
	for x := range b.rows() {
		if !b.isBetween(x) {
			continue
		}
		if len(found) == MaxList {
			return nil, api.ErrLimit
		}
		found = append(found, slices.Clone(x))
	}
	sorted := make([]api.Row, len(found))
	for i, at := range order(b.Primes, found) {
		sorted[i] = found[at]
	}
	return sorted, api.OK
}

// Within reports whether an interval is one of a box.
func Within(b Box, x api.Row) (bool, api.Errno) {
	if e := b.check(); e != api.OK {
		return false, e
	}
	if e := monzo.Check(b.Primes, x); e != api.OK {
		return false, e
	}
	beyond := func(n int) bool { return n < -b.Most || n > b.Most }
	return !slices.ContainsFunc(x, beyond) && b.isBetween(x), api.OK
}

// isBetween reports whether the size of an interval is that of Low, or between those of Low and High.
func (b Box) isBetween(x api.Row) bool {
	return logarithm.Compare(b.Primes, x, b.Low) >= 0 && logarithm.Compare(b.Primes, x, b.High) < 0
}

// rows yields all rows with exponents from -Most to Most, one after another in the same memory, as the digits of a number.
func (b Box) rows() iter.Seq[api.Row] {
	return func(yield func(x api.Row) bool) {
		x := slices.Repeat(api.Row{-b.Most}, len(b.Primes))
		for yield(x) {
			at := 0
			for at < len(x) && x[at] == b.Most {
				x[at] = -b.Most
				at++
			}
			if at == len(x) {
				return
			}
			x[at]++
		}
	}
}
