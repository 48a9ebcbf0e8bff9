package interval

import (
	"slices"

	"schisma/api"
	"schisma/logarithm"
	"schisma/monzo"
	"schisma/number"
)

// Reduce returns an interval without whole equaves, and how many there were.
func Reduce(p api.Primes, x api.Row) (rest api.Row, equaves int, e api.Errno) {
	if e := monzo.Check(p, x); e != api.OK {
		return nil, 0, e
	}
	equave := make(api.Row, len(p))
	equave[0] = 1
	return divide(p, x, equave)
}

// Inverse returns the complement of an interval in the equave.
func Inverse(p api.Primes, x api.Row) (api.Row, api.Errno) {
	negative, e := monzo.Neg(p, x)
	if e != api.OK {
		return nil, e
	}
	rest, _, e := Reduce(p, negative)
	return rest, e
}

// Alike reports whether two intervals differ by equaves.
func Alike(p api.Primes, x, y api.Row) (bool, api.Errno) {
	if e := check(p, nil, x, y); e != api.OK {
		return false, e
	}
	return slices.Equal(x[1:], y[1:]), api.OK
}

// Classes returns the index of the first one of all intervals that are alike.
func Classes(p api.Primes, l []api.Row) ([]int, api.Errno) {
	if e := check(p, l); e != api.OK {
		return nil, e
	}
	var first []int
	known := map[[api.MaxPrimes - 1]int]bool{}
	for i, x := range l {
		var class [api.MaxPrimes - 1]int
		copy(class[:], x[1:])
		if !known[class] {
			known[class] = true
			first = append(first, i)
		}
	}
	return first, api.OK
}

// Steps returns the greatest number of times that an interval fits into another one, and what is left.
func Steps(p api.Primes, x, by api.Row) (n int, rest api.Row, e api.Errno) {
	if e := check(p, nil, x, by); e != api.OK {
		return 0, nil, e
	}
	if logarithm.Compare(p, by, make(api.Row, len(by))) <= 0 {
		return 0, nil, api.ErrRange
	}
	rest, n, e = divide(p, x, by)
	if n < -api.MaxExponent || n > api.MaxExponent {
		return 0, nil, api.ErrLimit
	}
	return n, rest, e
}

// divide returns how often an interval greater than 0 fits into another one, and what is left.
func divide(p api.Primes, x, by api.Row) (rest api.Row, times int, e api.Errno) {
	times, is := logarithm.Floor(p, number.FromRow(x), number.FromRow(by)).Entry()
	if !is {
		return nil, 0, api.ErrLimit
	}
	rest = less(x, times, by)
	if e := monzo.Check(p, rest); e != api.OK {
		return nil, 0, e
	}
	return rest, times, api.OK
}
