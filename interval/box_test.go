package interval_test

import (
	"math"
	"math/rand/v2"
	"slices"
	"testing"

	"schisma/api"
	"schisma/interval"
	"schisma/monzo"
	"schisma/whole"
)

// all returns all rows of n exponents from -most to most.
func all(n, most int) []api.Row {
	if n == 0 {
		return []api.Row{{}}
	}
	var l []api.Row
	for _, x := range all(n-1, most) {
		for k := -most; k <= most; k++ {
			l = append(l, append(slices.Clone(x), k))
		}
	}
	return l
}

// list returns the intervals of a box in order.
func list(b interval.Box) []api.Row {
	var found []api.Row
	for _, x := range all(len(b.Primes), b.Most) {
		if compare(b.Primes, x, b.Low) >= 0 && compare(b.Primes, x, b.High) < 0 {
			found = append(found, x)
		}
	}
	slices.SortFunc(found, func(x, y api.Row) int { return compare(b.Primes, x, y) })
	return found
}

// boxes returns some right ones.
func boxes() []interval.Box {
	r := rand.New(rand.NewPCG(15, 600))
	var l []interval.Box
	for _, p := range lists() {
		for most := range interval.MaxBox + 1 {
			if len(p) > 3 && most > 1 || len(p) > 2 && most > 4 {
				break
			}
			n := len(p)
			zero, octave := make(api.Row, n), unit(n, 0, 1)
			l = append(l, interval.Box{Primes: p, Most: most, Low: zero, High: octave}, interval.Box{Primes: p, Most: most, Low: octave, High: zero}, interval.Box{Primes: p, Most: most, Low: zero, High: zero})
			l = append(l, interval.Box{Primes: p, Most: most, Low: unit(n, 0, -api.MaxExponent), High: unit(n, n-1, api.MaxExponent)})
			for range 3 {
				l = append(l, interval.Box{Primes: p, Most: most, Low: random(r, n, 3), High: random(r, n, 3)})
			}
		}
	}
	return l
}

// P15.3, P15.5

func TestList(t *testing.T) {
	long, empty := 0, 0
	for _, b := range boxes() {
		want := list(b)
		got, e := interval.List(b)
		switch {
		case len(want) > interval.MaxList:
			long++
			if e != api.ErrLimit || got != nil {
				t.Errorf("List(%v): %d intervals, %d", b, len(got), e)
			}
			continue
		case len(want) == 0:
			empty++
		}
		if e != api.OK || !equal(got, want) {
			t.Errorf("List(%v) = %v, %d, not %v", b, got, e, want)
		}
	}
	if long == 0 || empty == 0 {
		t.Errorf("%d long lists, and %d empty ones", long, empty)
	}
}

// A list has at most MaxList intervals: over 2.3.5 with Most 6, so many are less than a bound.
func TestLongLists(t *testing.T) {
	p := api.Primes{2, 3, 5}
	rows := all(3, interval.MaxBox)
	slices.SortFunc(rows, func(x, y api.Row) int { return compare(p, x, y) })
	for _, at := range []int{0, 100, 1000} {
		b := interval.Box{Primes: p, Most: interval.MaxBox, Low: rows[at], High: rows[at+interval.MaxList]}
		if l, e := interval.List(b); e != api.OK || !equal(l, rows[at:at+interval.MaxList]) {
			t.Errorf("List(%v): %d intervals, %d", b, len(l), e)
		}
		b.High = rows[at+interval.MaxList+1]
		if l, e := interval.List(b); e != api.ErrLimit || l != nil {
			t.Errorf("List(%v): %d intervals, %d", b, len(l), e)
		}
	}
}

// The greatest box, of which only few intervals are between the bounds: the greatest ones are the greatest of all, less the interval of a number.
func TestGreatestBox(t *testing.T) {
	p := api.Primes{2, 3, 5, 7, 11, 13}
	greatest := slices.Repeat(api.Row{interval.MaxBox}, len(p))
	var want []api.Row
	for n := 8; n > 0; n-- {
		number, e := monzo.Of(p, api.Rational{Num: whole.Of(n), Den: "1"})
		if e != api.OK {
			t.Fatalf("Of(%d): %d", n, e)
		}
		want = append(want, plus(greatest, -1, number))
	}
	b := interval.Box{Primes: p, Most: interval.MaxBox, Low: want[0], High: plus(greatest, 1, greatest)}
	if l, e := interval.List(b); e != api.OK || !equal(l, want) {
		t.Errorf("List = %v, %d", l, e)
	}
	b.High = b.Low
	if l, e := interval.List(b); e != api.OK || len(l) != 0 {
		t.Errorf("List = %v, %d", l, e)
	}
}

// An interval is in the list exactly if it is within.
func TestWithin(t *testing.T) {
	r := rand.New(rand.NewPCG(15, 700))
	for _, b := range boxes() {
		l := list(b)
		some := slices.Concat([]api.Row{b.Low, b.High}, l[:min(len(l), 5)])
		for range 10 {
			some = append(some, random(r, len(b.Primes), b.Most+1))
		}
		for _, x := range some {
			want := slices.ContainsFunc(l, func(y api.Row) bool { return slices.Equal(x, y) })
			if is, e := interval.Within(b, x); e != api.OK || is != want {
				t.Errorf("Within(%v, %v) = %t, %d", b, x, is, e)
			}
		}
	}
	b := interval.Box{Primes: api.Primes{2, 3}, Most: 6, Low: api.Row{-1000, 0}, High: api.Row{1000, 1000}}
	for _, c := range []struct {
		x  api.Row
		is bool
	}{{api.Row{6, -6}, true}, {api.Row{7, 0}, false}, {api.Row{0, 7}, false}, {api.Row{-7, 6}, false}, {api.Row{6, -7}, false}, {api.Row{1000, -1000}, false}} {
		if is, e := interval.Within(b, c.x); e != api.OK || is != c.is {
			t.Errorf("Within of %v: %t, %d", c.x, is, e)
		}
	}
}

// The errors of boxes, in their order, come before that of the interval, and before ErrLimit.
func TestErrorsOfBoxes(t *testing.T) {
	p, right := api.Primes{2, 3, 5}, api.Row{1, -2, 1}
	expect := func(b interval.Box, x api.Row, want api.Errno) {
		t.Helper()
		if l, e := interval.List(b); e != want || l != nil {
			t.Errorf("List(%v) = %d, not %d", b, e, want)
		}
		if is, e := interval.Within(b, x); e != want || is {
			t.Errorf("Within(%v, %v) = %d, not %d", b, x, e, want)
		}
	}
	rows := append(wrongRows(), wrongRow{right, api.OK})
	for _, x := range rows {
		for _, low := range rows {
			for _, list := range wrongLists() {
				for _, most := range []int{-1, 3, 7} {
					expect(interval.Box{Primes: list.p, Most: most, Low: low.x, High: right}, x.x, list.e)
				}
			}
			for _, most := range []int{-1, 7, math.MaxInt, math.MinInt} {
				expect(interval.Box{Primes: p, Most: most, Low: low.x, High: right}, x.x, api.ErrRange)
			}
			for _, high := range rows {
				b := interval.Box{Primes: p, Most: 2, Low: low.x, High: high.x}
				want := low.e
				if want == api.OK {
					want = high.e
				}
				if want != api.OK {
					expect(b, x.x, want)
				} else if is, e := interval.Within(b, x.x); e != x.e || is {
					t.Errorf("Within(%v, %v) = %t, %d, not %d", b, x.x, is, e, x.e)
				}
			}
		}
	}
}
