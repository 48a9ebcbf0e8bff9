package comma_test

import (
	"math"
	"math/rand/v2"
	"slices"
	"testing"

	"schisma/api"
	"schisma/comma"
)

// belongs reports whether a row is a sum of multiples of the rows of a form: its elements in the columns of the pivots leave no other choice.
func belongs(form api.Matrix, x api.Row) bool {
	rest := slices.Clone(x)
	for _, r := range form {
		pivot := slices.IndexFunc(r, func(n int) bool { return n != 0 })
		if rest[pivot]%r[pivot] != 0 {
			return false
		}
		rest = plus(rest, -rest[pivot]/r[pivot], r)
	}
	return !slices.ContainsFunc(rest, func(n int) bool { return n != 0 })
}

// forms returns lattices over n primes.
func forms(n int) []api.Matrix {
	l := []api.Matrix{nil, {}, {filled(n, 0, 1)}, {filled(n, 0, 3)}, {filled(n, n-1, 2)}, {filled(n, 0, api.MaxEntry)}}
	var all, even api.Matrix
	for i := range n {
		all, even = append(all, filled(n, i, 1)), append(even, filled(n, i, 2))
	}
	l = append(l, all, even)
	switch n {
	case 2:
		l = append(l, api.Matrix{{1, -1}}, api.Matrix{{3, -2}}, api.Matrix{{1, 1}, {0, 2}})
	case 3:
		l = append(l, api.Matrix{{4, -4, 1}}, api.Matrix{{1, 20, -14}, {0, 28, -19}}, api.Matrix{{1, 2, -3}, {0, 4, -4}}, api.Matrix{{0, 1, -1}}, api.Matrix{{1, -2, 1}}, api.Matrix{{1, 0, 1}, {0, 1, 1}, {0, 0, 2}})
	case 6:
		l = append(l, api.Matrix{{1, 0, 0, 1, 0, -1}, {0, 2, 0, 0, 0, 0}, {0, 0, 1, 0, 1, 1}})
	}
	return l
}

// P16.3

func TestIn(t *testing.T) {
	some, none := 0, 0
	for _, q := range questions() {
		l := list(q)
		for _, form := range forms(len(q.Primes)) {
			want := slices.DeleteFunc(intervals(q.Primes, l), func(x api.Row) bool { return !belongs(form, x) })
			got, e := comma.In(q, form)
			if e != api.OK || !equal(got, want) {
				t.Errorf("In(%v, %v) = %v, %d, not %v", q, form, got, e, want)
			}
			x, found, e := comma.Least(q, form)
			if e != api.OK || found != (len(want) > 0) || found && !slices.Equal(x, want[0]) || !found && x != nil {
				t.Errorf("Least(%v, %v) = %v, %t, %d, not the first one of %v", q, form, x, found, e, want)
			}
			if len(want) > 0 {
				some++
			} else {
				none++
			}
		}
	}
	if some == 0 || none == 0 {
		t.Errorf("%d lattices have intervals, %d have none", some, none)
	}
}

// P16.4

// combinations returns all sums of intervals, each taken from -most to most times, that are greater than 1, in order.
func combinations(p api.Primes, l []api.Row, most int) []api.Row {
	found := map[[api.MaxPrimes]int]bool{}
	var sums []api.Row
	var extend func(sum api.Row, rest []api.Row)
	extend = func(sum api.Row, rest []api.Row) {
		if len(rest) > 0 {
			for k := -most; k <= most; k++ {
				extend(plus(sum, k, rest[0]), rest[1:])
			}
			return
		}
		var key [api.MaxPrimes]int
		copy(key[:], sum)
		if !found[key] && isGreater(p, sum) {
			found[key] = true
			sums = append(sums, sum)
		}
	}
	extend(make(api.Row, len(p)), l)
	slices.SortFunc(sums, func(x, y api.Row) int { return slices.Compare(x, y) })
	return sums
}

func TestCombine(t *testing.T) {
	r := rand.New(rand.NewPCG(16, 1))
	for _, p := range lists() {
		n := len(p)
		random := func() api.Row {
			x := make(api.Row, n)
			for i := range x {
				x[i] = r.IntN(7) - 3
			}
			return x
		}
		x, y := random(), random()
		for _, l := range [][]api.Row{nil, {x}, {make(api.Row, n)}, {x, y}, {x, x}, {x, plus(make(api.Row, n), -2, x)}, {x, y, plus(x, 1, y)}, {x, random(), random(), random()}} {
			for _, most := range []int{0, 1, 2, 3} {
				if got, e := comma.Combine(p, l, most); e != api.OK || !equal(got, combinations(p, l, most)) {
					t.Errorf("Combine(%v, %v, %d) = %v, %d", p, l, most, got, e)
				}
			}
		}
	}
	// Those that are nearly 1 are decided, too.
	two, near := api.Primes{2, 3}, []api.Row{{-485, 306}, {-84, 53}}
	if got, e := comma.Combine(two, near, 1); e != api.OK || !equal(got, combinations(two, near, 1)) {
		t.Errorf("Combine = %v, %d", got, e)
	}
}

// The limits of the numbers of combinations: that of ways counts, be the combinations equal or not, and no more intervals are allowed with the number 0 alone.
func TestManyCombinations(t *testing.T) {
	p := api.Primes{2, 3}
	fifth := api.Row{-1, 1}
	for _, c := range []struct {
		l     []api.Row
		most  int
		count int
		e     api.Errno
	}{
		{nil, math.MaxInt, 0, api.OK}, {nil, 0, 0, api.OK}, {slices.Repeat([]api.Row{fifth}, 10_001), 0, 0, api.OK}, {slices.Repeat([]api.Row{fifth}, 8), 1, 8, api.OK}, {slices.Repeat([]api.Row{fifth}, 9), 1, 0, api.ErrLimit},
		{slices.Repeat([]api.Row{fifth}, 4), 4, 16, api.OK}, {slices.Repeat([]api.Row{fifth}, 4), 5, 0, api.ErrLimit}, {slices.Repeat([]api.Row{fifth}, 2), 49, 98, api.OK}, {slices.Repeat([]api.Row{fifth}, 2), 50, 0, api.ErrLimit},
		{[]api.Row{fifth}, 1000, 1000, api.OK}, {[]api.Row{fifth}, 1001, 0, api.ErrLimit}, {[]api.Row{{0, 0}}, 4999, 0, api.OK}, {[]api.Row{{0, 0}}, 5000, 0, api.ErrLimit}, {[]api.Row{{0, 0}}, math.MaxInt, 0, api.ErrLimit},
		{[]api.Row{fifth, fifth}, math.MaxInt/2 + 1, 0, api.ErrLimit}, {slices.Repeat([]api.Row{fifth}, 100), 2, 0, api.ErrLimit}, {slices.Repeat([]api.Row{fifth}, 64), math.MaxInt, 0, api.ErrLimit},
	} {
		if l, e := comma.Combine(p, c.l, c.most); e != c.e || len(l) != c.count {
			t.Errorf("Combine of %d intervals, %d: %d combinations, %d, not %d, %d", len(c.l), c.most, len(l), e, c.count, c.e)
		}
	}
}

// Every combination must be a right interval, also one that is not greater than 1.
func TestGreatCombinations(t *testing.T) {
	p := api.Primes{2, 3}
	for _, c := range []struct {
		l    []api.Row
		most int
		e    api.Errno
	}{
		{[]api.Row{{500, 0}}, 2, api.OK}, {[]api.Row{{501, 0}}, 2, api.ErrLimit}, {[]api.Row{{0, -500}}, 2, api.OK}, {[]api.Row{{0, -501}}, 2, api.ErrLimit}, {[]api.Row{{1000, -1000}}, 1, api.OK}, {[]api.Row{{1000, -1000}}, 2, api.ErrLimit},
		{[]api.Row{{500, 1}, {500, -1}}, 1, api.OK}, {[]api.Row{{501, 0}, {-500, 0}}, 1, api.ErrLimit}, {[]api.Row{{1000, 0}, {0, 1000}}, 1, api.OK}, {[]api.Row{{1000, 0}, {0, 1000}, {0, 1}}, 1, api.ErrLimit}, {[]api.Row{{1000, 1000}, {1000, 1000}}, 0, api.OK},
		{[]api.Row{{1000, 1000}}, 4999, api.ErrLimit},
	} {
		l, e := comma.Combine(p, c.l, c.most)
		if e != c.e || e != api.OK && l != nil || e == api.OK && !equal(l, combinations(p, c.l, c.most)) {
			t.Errorf("Combine(%v, %d) = %v, %d, not %d", c.l, c.most, l, e, c.e)
		}
	}
}

// P16.5: the combinations of one interval are its multiples, and those of several ones belong to their lattice.
func TestCombinationsBelong(t *testing.T) {
	p, form := api.Primes{2, 3, 5}, api.Matrix{{1, 20, -14}, {0, 28, -19}}
	l, e := comma.Combine(p, form, 10)
	if e != api.OK || len(l) == 0 {
		t.Fatalf("Combine: %d", e)
	}
	for _, x := range l {
		if !belongs(form, x) {
			t.Errorf("%v does not belong to the lattice", x)
		}
	}
	for _, c := range []struct {
		x    api.Row
		sign int
	}{{api.Row{-1, 1, 0}, 1}, {api.Row{-4, 4, -1}, 1}, {api.Row{4, -4, 1}, -1}, {api.Row{0, 0, -3}, -1}} {
		got, e := comma.Combine(p, []api.Row{c.x}, 5)
		var want []api.Row
		for k := range 5 {
			want = append(want, plus(make(api.Row, 3), c.sign*(k+1), c.x))
		}
		slices.SortFunc(want, func(x, y api.Row) int { return slices.Compare(x, y) })
		if e != api.OK || !equal(got, want) {
			t.Errorf("Combine of %v = %v, %d", c.x, got, e)
		}
	}
}
