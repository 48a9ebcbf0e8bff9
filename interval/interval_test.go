package interval_test

import (
	"math/rand/v2"
	"slices"
	"testing"

	"schisma/api"
	"schisma/interval"
)

// P15.1

// insert returns the indices of intervals in order, by insertion of one after another.
func insert(p api.Primes, l []api.Row) []int {
	var order []int
	for i, x := range l {
		at := len(order)
		for at > 0 && compare(p, x, l[order[at-1]]) < 0 {
			at--
		}
		order = slices.Insert(order, at, i)
	}
	return order
}

func TestSort(t *testing.T) {
	for _, p := range lists() {
		l := rows(len(p))
		for _, some := range [][]api.Row{nil, l[:1], l, slices.Concat(l[:20], l[5:15], l[:3])} {
			if len(p) > 2 && len(some) > 30 {
				some = slices.Concat(some[:12], some[len(some)-18:])
			}
			order, e := interval.Sort(p, some)
			if e != api.OK || !slices.Equal(order, insert(p, some)) {
				t.Errorf("Sort(%v, %v) = %v, %d", p, some, order, e)
			}
		}
	}
}

// Equal intervals stay in the order of the list, however many there are.
func TestSortOfEqual(t *testing.T) {
	p := api.Primes{2, 3}
	l := slices.Repeat([]api.Row{{-1, 1}, {0, 0}, {-19, 12}}, interval.MaxList/3)
	order, e := interval.Sort(p, l)
	if e != api.OK || len(order) != interval.MaxList {
		t.Fatalf("Sort: %d", e)
	}
	for i, at := range order {
		third := i / (interval.MaxList / 3)
		if want := 3*(i%(interval.MaxList/3)) + []int{1, 2, 0}[third]; at != want {
			t.Errorf("Sort has %d at %d, not %d", at, i, want)
		}
	}
}

// distance returns an interval of at least 0 that is as great as the difference of two.
func distance(p api.Primes, x, y api.Row) api.Row {
	if compare(p, x, y) < 0 {
		return plus(y, -1, x)
	}
	return plus(x, -1, y)
}

func TestNearest(t *testing.T) {
	r := rand.New(rand.NewPCG(15, 100))
	for _, p := range lists() {
		all := rows(len(p))
		for range 60 {
			x := all[r.IntN(len(all))]
			var l []api.Row
			for range 1 + r.IntN(8) {
				l = append(l, all[r.IntN(len(all))])
			}
			want := 0
			for i, y := range l {
				if compare(p, distance(p, y, x), distance(p, l[want], x)) < 0 {
					want = i
				}
			}
			if got, e := interval.Nearest(p, l, x); e != api.OK || got != want {
				t.Errorf("Nearest(%v, %v, %v) = %d, %d, not %d", p, l, x, got, e, want)
			}
		}
	}
}

// Of several intervals that are equally near the first one counts, be they less or greater, and distances need not be right intervals.
func TestNearestOfSeveral(t *testing.T) {
	p := api.Primes{2, 3}
	for i, c := range []struct {
		l    []api.Row
		x    api.Row
		want int
	}{
		{[]api.Row{{1, 0}, {-1, 0}}, api.Row{0, 0}, 0}, {[]api.Row{{-1, 0}, {1, 0}}, api.Row{0, 0}, 0}, {[]api.Row{{5, 0}, {-1, 1}, {1, -1}, {-1, 1}}, api.Row{0, 0}, 1},
		{[]api.Row{{2, 0}, {0, 0}, {0, 0}}, api.Row{0, 0}, 1}, {[]api.Row{{0, 0}, {-84, 53}}, api.Row{-19, 12}, 1},
		{[]api.Row{{1000, 0}, {0, 1000}}, api.Row{-1000, 0}, 0}, {[]api.Row{{0, 1000}, {1000, 0}}, api.Row{-1000, 0}, 1}, {[]api.Row{{-1000, -1000}, {1000, 1000}}, api.Row{1000, -1000}, 0},
	} {
		if got, e := interval.Nearest(p, c.l, c.x); e != api.OK || got != c.want {
			t.Errorf("%d: Nearest = %d, %d, not %d", i, got, e, c.want)
		}
	}
	for _, c := range []struct {
		x api.Row
		e api.Errno
	}{{api.Row{0, 0}, api.ErrEmpty}, {api.Row{0}, api.ErrSize}, {api.Row{1001, 0}, api.ErrLimit}} {
		if got, e := interval.Nearest(p, nil, c.x); e != c.e || got != 0 {
			t.Errorf("Nearest of none to %v = %d, %d, not %d", c.x, got, e, c.e)
		}
	}
}

func TestGaps(t *testing.T) {
	for _, p := range lists() {
		all := rows(len(p))
		r := rand.New(rand.NewPCG(15, 200))
		for range 40 {
			var l []api.Row
			for range r.IntN(7) {
				l = append(l, all[r.IntN(len(all))])
			}
			order := insert(p, l)
			var want []api.Row
			right := true
			for i := 1; i < len(order); i++ {
				gap := plus(l[order[i]], -1, l[order[i-1]])
				want = append(want, gap)
				right = right && isRight(gap)
			}
			got, e := interval.Gaps(p, l)
			if right && (e != api.OK || !equal(got, want)) || !right && (e != api.ErrLimit || got != nil) {
				t.Errorf("Gaps(%v, %v) = %v, %d, not %v", p, l, got, e, want)
			}
		}
	}
	for _, c := range []struct {
		l []api.Row
		e api.Errno
	}{{[]api.Row{{500}, {-500}}, api.OK}, {[]api.Row{{501}, {-500}}, api.ErrLimit}, {[]api.Row{{1000}, {-1000}, {0}}, api.OK}} {
		if got, e := interval.Gaps(api.Primes{2}, c.l); e != c.e || (e == api.OK) != (len(got) == len(c.l)-1) {
			t.Errorf("Gaps(%v) = %v, %d", c.l, got, e)
		}
	}
}

// P15.5

// Sorted intervals do not decrease; gaps are at least 0, and add up to the greatest interval less the least one.
func TestSortedIntervals(t *testing.T) {
	for _, p := range lists() {
		l := rows(len(p))
		order, _ := interval.Sort(p, l)
		for i := 1; i < len(order); i++ {
			if compare(p, l[order[i-1]], l[order[i]]) > 0 {
				t.Errorf("over %v, %v stands before %v", p, l[order[i-1]], l[order[i]])
			}
		}
		small := slices.DeleteFunc(rows(len(p)), func(x api.Row) bool { return slices.Max(x) > 100 || slices.Min(x) < -100 })
		gaps, e := interval.Gaps(p, small)
		if e != api.OK {
			t.Fatalf("Gaps: %d", e)
		}
		sum := make(api.Row, len(p))
		for _, gap := range gaps {
			if compare(p, gap, make(api.Row, len(p))) < 0 {
				t.Errorf("the gap %v is less than 0", gap)
			}
			sum = plus(sum, 1, gap)
		}
		order, _ = interval.Sort(p, small)
		if want := plus(small[order[len(order)-1]], -1, small[order[0]]); !slices.Equal(sum, want) {
			t.Errorf("the gaps over %v add up to %v, not %v", p, sum, want)
		}
	}
}

// The examples of the document.
func TestExamples(t *testing.T) {
	p := api.Primes{2, 3, 5}
	l := []api.Row{{-1, 1, 0}, {-2, 0, 1}, {-4, 4, -1}}
	if order, e := interval.Sort(p, l); e != api.OK || !slices.Equal(order, []int{2, 1, 0}) {
		t.Errorf("Sort = %v, %d", order, e)
	}
	if gaps, e := interval.Gaps(p, l); e != api.OK || !equal(gaps, []api.Row{{2, -4, 2}, {1, 1, -1}}) {
		t.Errorf("Gaps = %v, %d", gaps, e)
	}
	for _, c := range []struct {
		x, rest api.Row
		equaves int
	}{{api.Row{0, 1, 0}, api.Row{-1, 1, 0}, 1}, {api.Row{0, -1, 0}, api.Row{2, -1, 0}, -2}} {
		if rest, n, e := interval.Reduce(p, c.x); e != api.OK || n != c.equaves || !slices.Equal(rest, c.rest) {
			t.Errorf("Reduce(%v) = %v, %d, %d", c.x, rest, n, e)
		}
	}
	for _, c := range [][2]api.Row{{{-1, 1, 0}, {2, -1, 0}}, {{1, 0, 0}, {0, 0, 0}}} {
		if x, e := interval.Inverse(p, c[0]); e != api.OK || !slices.Equal(x, c[1]) {
			t.Errorf("Inverse(%v) = %v, %d", c[0], x, e)
		}
	}
	box := interval.Box{Primes: api.Primes{2, 3}, Most: 2, Low: api.Row{0, 0}, High: api.Row{1, 0}}
	if l, e := interval.List(box); e != api.OK || !equal(l, []api.Row{{0, 0}, {2, -1}, {-1, 1}}) {
		t.Errorf("List = %v, %d", l, e)
	}
	if is, e := interval.Within(box, api.Row{-3, 2}); e != api.OK || is {
		t.Errorf("Within = %t, %d", is, e)
	}
}
