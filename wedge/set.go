package wedge

import (
	"iter"
	"math/bits"
)

// set is a set of indices, each of which is a bit.
type set uint

// sets yields the sets of so many of the indices below a dimension, in lexicographic order.
func sets(dimension, grade int) iter.Seq[set] {
	return func(yield func(s set) bool) {
		complete(0, 0, dimension, grade, yield)
	}
}

// complete yields a set with so many more indices from first on, in all ways, as long as it is to go on, and reports whether it is.
func complete(s set, first, dimension, missing int, yield func(s set) bool) bool {
	if missing == 0 {
		return yield(s)
	}
	for i := first; i+missing <= dimension; i++ {
		if !complete(s|single(i), i+1, dimension, missing-1, yield) {
			return false
		}
	}
	return true
}

// single returns the set of one index.
func single(i int) set {
	return 1 << i
}

// indices yields the indices in increasing order.
func (s set) indices() iter.Seq[int] {
	return func(yield func(i int) bool) {
		for left := s; left != 0; left &= left - 1 {
			if !yield(bits.TrailingZeros(uint(left))) {
				return
			}
		}
	}
}

// isOdd reports whether the permutation is odd that puts a set, in order, and behind it another one, in order, into order: each index of the first set has to pass the lesser ones of the second one.
func isOdd(first, second set) bool {
	passed := 0
	for i := range first.indices() {
		passed += bits.OnesCount(uint(second & (single(i) - 1)))
	}
	return passed%2 == 1
}
