package val

import (
	"iter"
	"slices"

	"schisma/api"
	"schisma/size"
)

// end is a number of steps for which the place of a prime is an odd number of halves, so that it is between two integers.
type end struct{ index, halves int }

// order returns a function that compares ends: the numbers of steps are the halves divided by the logarithms of the primes.
func order(p api.Primes) func(a, b end) int {
	return func(a, b end) int {
		sign, _ := size.Compare(p, multiple(p, b.index, a.halves), multiple(p, a.index, b.halves))
		return sign
	}
}

// ends returns for all elements of a val those that are so many halves beyond the element.
func ends(v api.Row, beyond int) []end {
	l := make([]end, len(v))
	for i, n := range v {
		l[i] = end{i, 2*n + beyond}
	}
	return l
}

// Uniform reports whether there is a number of steps for which every place is nearest to the element of its prime.
func Uniform(p api.Primes, v api.Row) (bool, api.Errno) {
	if e := Check(p, v); e != api.OK {
		return false, e
	}
	compare := order(p)
	// Each element allows the numbers of steps from its lower end up to its upper one.
	last := slices.MaxFunc(ends(v, -1), compare)
	first := slices.MinFunc(ends(v, 1), compare)
	return compare(last, first) < 0, api.OK
}

// Between returns all uniform vals whose first element is from low to high.
func Between(p api.Primes, low, high int) ([]api.Row, api.Errno) {
	if e := checkSteps(p, low); e != api.OK {
		return nil, e
	}
	if high > MaxSteps || low > high {
		return nil, api.ErrRange
	}
	var vals []api.Row
	for v := range uniform(p, low) {
		if v[0] > high {
			break
		}
		if len(vals) == MaxVals {
			return nil, api.ErrLimit
		}
		vals = append(vals, slices.Clone(v))
	}
	return vals, api.OK
}

// uniform yields the uniform vals in order, without end, beginning with the first one whose first element is low, one after another in the same memory.
func uniform(p api.Primes, low int) iter.Seq[api.Row] {
	return func(yield func(v api.Row) bool) {
		compare := order(p)
		v := rounded(p, 2*low-1, 2)
		for yield(v) {
			// With more and more steps the element with the least upper end is the next one that is greater.
			next := slices.MinFunc(ends(v, 1), compare)
			v[next.index]++
		}
	}
}
