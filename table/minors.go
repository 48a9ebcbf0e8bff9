package table

import (
	"iter"

	"schisma/api"
	"schisma/number"
)

// Minors returns all minors of k rows.
func Minors(m api.Matrix, k int) ([]api.Int, api.Errno) {
	if e := Check(m); e != api.OK {
		return nil, e
	}
	if k < 0 || k > len(m) || k > Columns(m) {
		return nil, api.ErrRange
	}
	if choices(len(m), k)*choices(Columns(m), k) > MaxMinors {
		return nil, api.ErrLimit
	}
	rows := number.FromMatrix(m)
	var minors []api.Int
	for lines := range sets(len(m), k) {
		for columns := range sets(Columns(m), k) {
			minors = append(minors, determinant(part(rows, lines, columns)).Int())
		}
	}
	return minors, api.OK
}

// part returns the numbers in some rows and columns.
func part(rows []number.Row, lines, columns []int) []number.Row {
	var chosen []number.Row
	for _, i := range lines {
		var r number.Row
		for _, j := range columns {
			r = append(r, rows[i][j])
		}
		chosen = append(chosen, r)
	}
	return chosen
}

// choices returns how many sets of k of n indices there are.
func choices(n, k int) int {
	count := 1
	for i := range k {
		count = count * (n - i) / (i + 1)
	}
	return count
}

// sets yields the sets of k of the indices below n, each in increasing order, in lexicographic order. The set is changed as soon as the next one is asked for.
func sets(n, k int) iter.Seq[[]int] {
	return func(yield func(set []int) bool) {
		set := make([]int, k)
		for i := range set {
			set[i] = i
		}
		for yield(set) && advance(set, n) {
		}
	}
}

// advance makes a set the next one, if there is one.
func advance(set []int, n int) bool {
	last := len(set) - 1
	for last >= 0 && set[last] == n-len(set)+last {
		last--
	}
	if last < 0 {
		return false
	}
	set[last]++
	for i := last + 1; i < len(set); i++ {
		set[i] = set[i-1] + 1
	}
	return true
}
