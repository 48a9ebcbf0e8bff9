package convergent

import (
	"cmp"
	"iter"
	"sort"

	"schisma/api"
	"schisma/fraction"
	"schisma/whole"
)

// Semiconvergents returns the convergents with denominators up to a bound, and those between them.
func Semiconvergents(x api.Rational, bound int) ([]api.Rational, api.Errno) {
	if e := check(x, bound); e != api.OK {
		return nil, e
	}
	if _, e := Terms(x); e != api.OK {
		return nil, e
	}
	return collect(semiconvergents(x, bound, func(block) int { return 1 }))
}

// Nearest returns the fraction with a denominator up to a bound that is nearest to a number.
func Nearest(x api.Rational, bound int) (api.Rational, api.Errno) {
	if e := check(x, bound); e != api.OK {
		return api.Rational{}, e
	}
	if isOf(x, bound) {
		return x, api.OK
	}
	below, above := around(x, bound)
	if cmp.Or(compareDistances(x, above, below), whole.Compare(above.Den, below.Den)) < 0 {
		return above, api.OK
	}
	return below, api.OK
}

// Best returns the fractions with denominators up to a bound that are nearer to a number than all simpler ones.
func Best(x api.Rational, bound int) ([]api.Rational, api.Errno) {
	if e := check(x, bound); e != api.OK {
		return nil, e
	}
	var l []api.Rational
	for y := range semiconvergents(x, bound, func(b block) int { return b.firstNearer(x) }) {
		if y.Den == "1" {
			l = nil // of the integers, only the nearest one is a best approximation
		}
		if len(l) == MaxTerms {
			return nil, api.ErrLimit
		}
		l = append(l, y)
	}
	return l, api.OK
}

// Neighbours returns the next lesser and the next greater fraction with a denominator up to a bound.
func Neighbours(x api.Rational, bound int) (below, above api.Rational, e api.Errno) {
	if e := check(x, bound); e != api.OK {
		return api.Rational{}, api.Rational{}, e
	}
	below, above = around(x, bound)
	if !isRight(below) || !isRight(above) {
		return api.Rational{}, api.Rational{}, api.ErrNumber
	}
	return below, above, api.OK
}

// check returns the error of a fraction and a bound.
func check(x api.Rational, bound int) api.Errno {
	if e := fraction.Check(x); e != api.OK {
		return e
	}
	if bound < 1 || bound > MaxBound {
		return api.ErrRange
	}
	return api.OK
}

// isOf reports whether x is a fraction of a bound.
func isOf(x api.Rational, bound int) bool {
	den, is := whole.Small(x.Den)
	return is && den <= bound
}

// around returns the neighbours, also those with numbers that are too long.
func around(x api.Rational, bound int) (below, above api.Rational) {
	// If a block ends with x, the one before it is the nearest one on its side.
	for y := range semiconvergents(x, bound, func(b block) int { return b.last - 1 }) {
		switch fraction.Compare(y, x) {
		case -1:
			below = y
		case 1:
			above = y
		}
	}
	if !isOf(x, bound) {
		return below, above
	}
	if below == (api.Rational{}) {
		below = ahead(x, infinite(), "-1")
	}
	if above == (api.Rational{}) {
		above = ahead(x, infinite(), "1")
	}
	return approach(below, x, bound), approach(above, x, bound)
}

// approach returns the last one of a bound of the mediants that lead from y to x.
func approach(y, x api.Rational, bound int) api.Rational {
	times, _, _ := whole.DivMod(whole.Sub(whole.Of(bound), y.Den), x.Den)
	return ahead(y, x, times)
}

// compareDistances returns -1, 0 or 1, as a is nearer to x than b, as near, or farther away.
func compareDistances(x, a, b api.Rational) int {
	return whole.Compare(whole.Mul(gap(x, a), b.Den), whole.Mul(gap(x, b), a.Den))
}

// gap returns the distance of two fractions, times both denominators.
func gap(x, y api.Rational) api.Int {
	return whole.Abs(whole.Sub(whole.Mul(x.Num, y.Den), whole.Mul(y.Num, x.Den)))
}

// block contains the semiconvergents that lead from one convergent to the next but one: older, and the one between, newer, taken from once to last times. They come nearer to the number, from one side.
type block struct {
	older, newer api.Rational
	last         int
}

// newBlock returns a block with so many times, or with less if others have denominators beyond the bound.
func newBlock(older, newer api.Rational, times api.Int, bound int) block {
	first, _ := whole.Small(older.Den)
	step, _ := whole.Small(newer.Den)
	last := (bound - first) / step
	if n, is := whole.Small(times); is {
		last = min(last, n)
	}
	return block{older, newer, last}
}

// at returns one of the semiconvergents.
func (b block) at(times int) api.Rational {
	return ahead(b.older, b.newer, whole.Of(times))
}

// firstNearer returns for how many times a semiconvergent is, as the first one, nearer to x than the convergent before the block.
func (b block) firstNearer(x api.Rational) int {
	return 1 + sort.Search(b.last, func(i int) bool { return compareDistances(x, b.at(1+i), b.newer) < 0 })
}

// semiconvergents yields the semiconvergents with denominators up to a bound; of each block only those from the one on where begin says.
func semiconvergents(x api.Rational, bound int, begin func(block) int) iter.Seq[api.Rational] {
	return func(yield func(api.Rational) bool) {
		floor, rest, _ := whole.DivMod(x.Num, x.Den)
		older, newer := infinite(), api.Rational{Num: floor, Den: "1"}
		if !yield(newer) {
			return
		}
		for a := range termsOf(api.Rational{Num: x.Den, Den: rest}) {
			b := newBlock(older, newer, a, bound)
			for times := max(1, begin(b)); times <= b.last; times++ {
				if !yield(b.at(times)) {
					return
				}
			}
			if whole.Of(b.last) != a {
				return
			}
			older, newer = newer, b.at(b.last)
		}
	}
}
