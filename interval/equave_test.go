package interval_test

import (
	"math/rand/v2"
	"slices"
	"testing"

	"schisma/api"
	"schisma/interval"
)

// isReduced reports whether an interval is at least 0, and less than the equave.
func isReduced(p api.Primes, x api.Row) bool {
	n := len(p)
	return compare(p, x, make(api.Row, n)) >= 0 && compare(p, x, unit(n, 0, 1)) < 0
}

// P15.2, P15.5

func TestReduce(t *testing.T) {
	for _, p := range lists() {
		for _, x := range rows(len(p)) {
			rest, n, e := interval.Reduce(p, x)
			equave := unit(len(p), 0, 1)
			want, _ := steps(p, x, equave, 50*api.MaxExponent)
			left := plus(x, -want, equave)
			if !isRight(left) {
				if e != api.ErrLimit || rest != nil || n != 0 {
					t.Errorf("Reduce(%v, %v) = %v, %d, %d", p, x, rest, n, e)
				}
				continue
			}
			if e != api.OK || n != want || !slices.Equal(rest, left) || !isReduced(p, rest) {
				t.Errorf("Reduce(%v, %v) = %v, %d, %d, not %v, %d", p, x, rest, n, e, left, want)
			}
			if again, n, e := interval.Reduce(p, rest); e != api.OK || n != 0 || !slices.Equal(again, rest) {
				t.Errorf("Reduce(%v, %v) = %v, %d, %d", p, rest, again, n, e)
			}
		}
	}
}

// The first exponent of the reduced interval can be as great as api.MaxExponent.
func TestReduceAtTheLimit(t *testing.T) {
	for _, c := range []struct {
		p       api.Primes
		x, rest api.Row
		n       int
		e       api.Errno
	}{
		{api.Primes{2, 3}, api.Row{0, 631}, api.Row{-1000, 631}, 1000, api.OK}, {api.Primes{2, 3}, api.Row{0, 632}, nil, 0, api.ErrLimit},
		{api.Primes{2, 3}, api.Row{0, -630}, api.Row{999, -630}, -999, api.OK}, {api.Primes{2, 3}, api.Row{1000, -631}, nil, 0, api.ErrLimit},
		{api.Primes{2, 3}, api.Row{1000, 631}, api.Row{-1000, 631}, 2000, api.OK}, {api.Primes{2}, api.Row{-1000}, api.Row{0}, -1000, api.OK}, {api.Primes{97}, api.Row{1000}, api.Row{0}, 1000, api.OK},
		{api.Primes{2, 97}, api.Row{0, 1000}, nil, 0, api.ErrLimit}, {api.Primes{89, 97}, api.Row{0, -900}, api.Row{918, -900}, -918, api.OK},
	} {
		rest, n, e := interval.Reduce(c.p, c.x)
		if e != c.e || n != c.n || !slices.Equal(rest, c.rest) {
			t.Errorf("Reduce(%v, %v) = %v, %d, %d", c.p, c.x, rest, n, e)
		}
	}
}

func TestInverse(t *testing.T) {
	for _, p := range lists() {
		for _, x := range rows(len(p)) {
			want, _, f := interval.Reduce(p, plus(make(api.Row, len(p)), -1, x))
			inverse, e := interval.Inverse(p, x)
			if e != f || !slices.Equal(inverse, want) || e != api.OK && (e != api.ErrLimit || inverse != nil) {
				t.Errorf("Inverse(%v, %v) = %v, %d", p, x, inverse, e)
			}
			if e != api.OK {
				continue
			}
			// Both add up to a number of equaves.
			if sum := plus(x, 1, inverse); !isReduced(p, inverse) || slices.ContainsFunc(sum[1:], func(n int) bool { return n != 0 }) {
				t.Errorf("Inverse(%v, %v) = %v", p, x, inverse)
			}
			reduced, _, f := interval.Reduce(p, x)
			if back, e := interval.Inverse(p, inverse); e != f || !slices.Equal(back, reduced) {
				t.Errorf("the inverse of the inverse of %v is %v, %d", x, back, e)
			}
		}
	}
}

func TestAlike(t *testing.T) {
	r := rand.New(rand.NewPCG(15, 300))
	for _, p := range lists() {
		l := rows(len(p))
		for _, x := range l {
			moved := slices.Clone(x)
			moved[0] = r.IntN(2001) - 1000
			for _, y := range []api.Row{x, moved, l[r.IntN(len(l))], l[r.IntN(len(l))]} {
				want := true
				for i := range p {
					want = want && (i == 0 || x[i] == y[i])
				}
				if is, e := interval.Alike(p, x, y); e != api.OK || is != want {
					t.Errorf("Alike(%v, %v, %v) = %t, %d", p, x, y, is, e)
				}
				// Intervals are alike exactly if the reduced ones are equal.
				a, _, e := interval.Reduce(p, x)
				b, _, f := interval.Reduce(p, y)
				if e == api.OK && f == api.OK && slices.Equal(a, b) != want {
					t.Errorf("over %v, %v and %v are reduced to %v and %v", p, x, y, a, b)
				}
			}
		}
	}
}

func TestClasses(t *testing.T) {
	r := rand.New(rand.NewPCG(15, 400))
	for _, p := range lists() {
		for _, count := range []int{0, 1, 2, 30, interval.MaxList} {
			var l []api.Row
			for range count {
				l = append(l, random(r, len(p), 1+r.IntN(2)))
			}
			var want []int
			for i, x := range l {
				if !slices.ContainsFunc(l[:i], func(y api.Row) bool { return slices.Equal(x[1:], y[1:]) }) {
					want = append(want, i)
				}
			}
			if got, e := interval.Classes(p, l); e != api.OK || !slices.Equal(got, want) {
				t.Errorf("Classes(%v, %v) = %v, %d, not %v", p, l, got, e, want)
			}
		}
	}
	l := []api.Row{{0, 0, 1000}, {5, 0, -1000}, {-1000, 0, 1000}, {0, 1000, 0}, {0, 0, 0}, {1000, 1000, 0}, {1, 0, 0}}
	if got, e := interval.Classes(api.Primes{2, 3, 5}, l); e != api.OK || !slices.Equal(got, []int{0, 1, 3, 4}) {
		t.Errorf("Classes = %v, %d", got, e)
	}
}

// P15.4

func TestSteps(t *testing.T) {
	r := rand.New(rand.NewPCG(15, 500))
	for _, p := range lists() {
		l := rows(len(p))
		for _, x := range l {
			for _, by := range []api.Row{x, random(r, len(p), 2), random(r, len(p), 9), l[r.IntN(len(l))]} {
				n, rest, e := interval.Steps(p, x, by)
				if compare(p, by, make(api.Row, len(p))) <= 0 {
					if e != api.ErrRange || n != 0 || rest != nil {
						t.Errorf("Steps(%v, %v, %v) = %d, %v, %d", p, x, by, n, rest, e)
					}
					continue
				}
				want, right := steps(p, x, by, api.MaxExponent)
				left := plus(x, -want, by)
				if right = right && isRight(left); right && (e != api.OK || n != want || !slices.Equal(rest, left)) || !right && (e != api.ErrLimit || n != 0 || rest != nil) {
					t.Errorf("Steps(%v, %v, %v) = %d, %v, %d, not %d", p, x, by, n, rest, e, want)
				}
			}
		}
	}
}

// steps returns the greatest number of times that an interval greater than 0 fits into another one, by halving the range of all that are not beyond a limit, if it is one of these.
func steps(p api.Primes, x, by api.Row, limit int) (n int, right bool) {
	low, high := -limit, limit+1
	fits := func(n int) bool { return compare(p, x, plus(make(api.Row, len(p)), n, by)) >= 0 }
	if !fits(low) || fits(high) {
		return 0, false
	}
	for low+1 < high {
		if middle := (low + high) / 2; fits(middle) {
			low = middle
		} else {
			high = middle
		}
	}
	return low, true
}

// The limits of the number and of what is left.
func TestStepsAtTheLimit(t *testing.T) {
	p := api.Primes{2, 3, 5}
	for _, c := range []struct {
		x, by api.Row
		n     int
		rest  api.Row
		e     api.Errno
	}{
		{api.Row{1000, 0, 0}, api.Row{1, 0, 0}, 1000, api.Row{0, 0, 0}, api.OK}, {api.Row{-1000, 0, 0}, api.Row{1, 0, 0}, -1000, api.Row{0, 0, 0}, api.OK},
		{api.Row{999, 1, 0}, api.Row{1, 0, 0}, 1000, api.Row{-1, 1, 0}, api.OK}, {api.Row{1000, 1, 0}, api.Row{1, 0, 0}, 0, nil, api.ErrLimit},
		{api.Row{-999, -1, 0}, api.Row{1, 0, 0}, 0, nil, api.ErrLimit}, {api.Row{-1000, 1, 0}, api.Row{1, 0, 0}, -999, api.Row{-1, 1, 0}, api.OK}, {api.Row{-1000, -1, 0}, api.Row{1, 0, 0}, 0, nil, api.ErrLimit},
		{api.Row{1, 0, 0}, api.Row{-4, 4, -1}, 55, api.Row{221, -220, 55}, api.OK}, {api.Row{0, 0, 0}, api.Row{-4, 4, -1}, 0, api.Row{0, 0, 0}, api.OK}, {api.Row{4, -4, 1}, api.Row{-4, 4, -1}, -1, api.Row{0, 0, 0}, api.OK},
		{api.Row{10, 0, 0}, api.Row{-4, 4, -1}, 0, nil, api.ErrLimit}, {api.Row{1000, 1000, 1000}, api.Row{-84, 53, 0}, 0, nil, api.ErrLimit}, {api.Row{0, 0, 430}, api.Row{1, 0, 0}, 998, api.Row{-998, 0, 430}, api.OK},
		{api.Row{1, 1, 1}, api.Row{1000, 1000, 1000}, 0, api.Row{1, 1, 1}, api.OK}, {api.Row{-1, -1, -1}, api.Row{1000, 1000, 1000}, -1, api.Row{999, 999, 999}, api.OK}, {api.Row{-1, -1, 1}, api.Row{1000, 1000, 1000}, 0, nil, api.ErrLimit},
		{api.Row{5, 0, 0}, api.Row{0, 0, 0}, 0, nil, api.ErrRange}, {api.Row{5, 0, 0}, api.Row{4, -4, 1}, 0, nil, api.ErrRange}, {api.Row{1000, 0, 0}, api.Row{-1, 0, 0}, 0, nil, api.ErrRange},
	} {
		n, rest, e := interval.Steps(p, c.x, c.by)
		if e != c.e || n != c.n || !slices.Equal(rest, c.rest) {
			t.Errorf("Steps(%v, %v) = %d, %v, %d, not %d, %v, %d", c.x, c.by, n, rest, e, c.n, c.rest, c.e)
		}
	}
}
