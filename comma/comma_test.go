package comma_test

import (
	"slices"
	"testing"

	"schisma/api"
	"schisma/comma"
)

// P16.1

func TestCheck(t *testing.T) {
	for _, q := range questions() {
		if e := comma.Check(q); e != api.OK {
			t.Errorf("Check(%v) = %d", q, e)
		}
	}
	for _, c := range wrongQuestions() {
		if e := comma.Check(c.q); e != c.e {
			t.Errorf("Check(%v) = %d, not %d", c.q, e, c.e)
		}
	}
}

func TestList(t *testing.T) {
	empty := 0
	for _, q := range questions() {
		want := list(q)
		if got, e := comma.List(q); e != api.OK || !equal(got, intervals(q.Primes, want)) {
			t.Errorf("List(%v) = %v, %d, not %v", q, got, e, want)
		}
		if len(want) == 0 {
			empty++
		}
	}
	if empty == 0 {
		t.Error("no empty list")
	}
}

// The greatest height, and the greatest interval, belong to the list.
func TestEdgesOfLists(t *testing.T) {
	p, syntonic := api.Primes{2, 3, 5}, api.Row{-4, 4, -1}
	for _, c := range []struct {
		height int
		most   api.Row
		want   []api.Row
	}{
		{81, syntonic, []api.Row{syntonic}}, {80, syntonic, nil}, {127, syntonic, []api.Row{syntonic}},
		{81, plus(syntonic, -1, api.Row{-90, -15, 49}), nil}, {81, plus(syntonic, 1, api.Row{-90, -15, 49}), []api.Row{syntonic}},
		{4374, api.Row{-15, 8, 1}, nil}, {2, api.Row{1, 0, 0}, []api.Row{{1, 0, 0}}}, {1, api.Row{1000, 1000, 1000}, nil},
	} {
		q := comma.Question{Primes: p, Height: c.height, Most: c.most}
		if l, e := comma.List(q); e != api.OK || !equal(l, c.want) {
			t.Errorf("List(%v) = %v, %d, not %v", q, l, e, c.want)
		}
	}
	greatest := comma.Question{Primes: api.Primes{2, 3, 5}, Height: comma.MaxHeight, Most: api.Row{1000, 1000, 1000}}
	l, e := comma.List(greatest)
	if e != api.OK || len(l) != len(list(greatest)) || !slices.Equal(l[len(l)-1], pair{5000, 2187}.interval(p)) {
		t.Errorf("List(%v): %d intervals, %d", greatest, len(l), e)
	}
}

// long returns questions with MaxList intervals, and with one more.
func long() (fits, exceeds comma.Question) {
	p := api.Primes{2, 3, 5, 7, 11, 13}
	const height = 2000
	l := smoothFractions(p, height)
	slices.SortFunc(l, pair.compare)
	fits = comma.Question{Primes: p, Height: height, Most: l[comma.MaxList-1].interval(p)}
	exceeds = comma.Question{Primes: p, Height: height, Most: l[comma.MaxList].interval(p)}
	return fits, exceeds
}

func TestLongLists(t *testing.T) {
	fits, exceeds := long()
	l, e := comma.List(fits)
	if e != api.OK || len(l) != comma.MaxList || !equal(l, intervals(fits.Primes, list(fits))) {
		t.Errorf("List(%v): %d intervals, %d", fits, len(l), e)
	}
	if l, e := comma.Smallest(fits, 1); e != api.OK || len(l) != 1 {
		t.Errorf("Smallest(%v) = %v, %d", fits, l, e)
	}
	expectError(t, withQuestion(exceeds), api.ErrLimit)
	expectError(t, withForm(exceeds, api.Matrix{{1, 0, 0, 0, 0, 0}}), api.ErrLimit)
	expectError(t, withForm(exceeds, nil), api.ErrLimit)
}

// P16.2

func TestSmallest(t *testing.T) {
	for _, q := range questions() {
		sorted := list(q)
		slices.SortFunc(sorted, pair.compare)
		for _, count := range []int{0, 1, 2, 3, 50, comma.MaxCount} {
			want := sorted[:min(count, len(sorted))]
			if got, e := comma.Smallest(q, count); e != api.OK || !equal(got, intervals(q.Primes, want)) {
				t.Errorf("Smallest(%v, %d) = %v, %d, not %v", q, count, got, e, want)
			}
		}
	}
}

func TestRecords(t *testing.T) {
	for _, q := range questions() {
		var want []pair
		for i, f := range list(q) {
			isLess := func(g pair) bool { return f.compare(g) < 0 }
			if i == 0 || isLess(want[len(want)-1]) {
				want = append(want, f)
			}
		}
		if got, e := comma.Records(q); e != api.OK || !equal(got, intervals(q.Primes, want)) {
			t.Errorf("Records(%v) = %v, %d, not %v", q, got, e, want)
		}
	}
}

func TestSuperparticular(t *testing.T) {
	for _, q := range questions() {
		want := slices.DeleteFunc(list(q), func(f pair) bool { return f.num != f.den+1 })
		if got, e := comma.Superparticular(q); e != api.OK || !equal(got, intervals(q.Primes, want)) {
			t.Errorf("Superparticular(%v) = %v, %d, not %v", q, got, e, want)
		}
	}
}

// P16.5

// The numerators of records increase, and so do those of superparticular intervals; the first record is the first interval, and the last one the smallest.
func TestRecordsOfLists(t *testing.T) {
	for _, q := range questions() {
		l, _ := comma.List(q)
		records, _ := comma.Records(q)
		superparticular, _ := comma.Superparticular(q)
		smallest, _ := comma.Smallest(q, 1)
		for _, some := range [][]api.Row{records, superparticular} {
			for i := 1; i < len(some); i++ {
				last, _ := sides(q.Primes, some[i-1])
				if next, _ := sides(q.Primes, some[i]); next.Cmp(last) <= 0 {
					t.Errorf("%v: the numerators %v and %v", q, last, next)
				}
			}
		}
		if len(l) == 0 {
			continue
		}
		if !slices.Equal(records[0], l[0]) || !slices.Equal(records[len(records)-1], smallest[0]) {
			t.Errorf("%v: the records %v", q, records)
		}
	}
}

// With a greater height, or a greater bound, no interval is lost, and the inverse of none is in the list.
func TestWidening(t *testing.T) {
	for _, q := range questions() {
		if q.Height == comma.MaxHeight {
			continue
		}
		l, _ := comma.List(q)
		higher, wider := q, q
		higher.Height += 20
		if wider.Most[0] < api.MaxExponent {
			wider.Most = plus(q.Most, 1, filled(len(q.Primes), 0, 1))
		}
		for _, greater := range []comma.Question{higher, wider} {
			all, e := comma.List(greater)
			if e != api.OK {
				t.Fatalf("List(%v): %d", greater, e)
			}
			for _, x := range l {
				has := func(y api.Row) bool {
					return slices.ContainsFunc(all, func(z api.Row) bool { return slices.Equal(y, z) })
				}
				if inverse := plus(make(api.Row, len(x)), -1, x); !has(x) || has(inverse) {
					t.Errorf("List(%v) has %v: %t, and its inverse: %t", greater, x, has(x), has(inverse))
				}
			}
		}
	}
}

// The examples of the document.
func TestExamples(t *testing.T) {
	p := api.Primes{2, 3, 5}
	q := comma.Question{Primes: p, Height: 10, Most: api.Row{-2, 0, 1}}
	want := []api.Row{{-2, 0, 1}, {1, 1, -1}, {-3, 2, 0}, {1, -2, 1}}
	for i, f := range []func(q comma.Question) ([]api.Row, api.Errno){comma.List, comma.Superparticular, comma.Records} {
		if l, e := f(q); e != api.OK || !equal(l, want) {
			t.Errorf("%d: %v, %d", i, l, e)
		}
	}
	if l, e := comma.Smallest(q, 2); e != api.OK || !equal(l, []api.Row{{1, -2, 1}, {-3, 2, 0}}) {
		t.Errorf("Smallest = %v, %d", l, e)
	}
	q = comma.Question{Primes: p, Height: 81, Most: api.Row{-3, -1, 2}}
	if l, e := comma.List(q); e != api.OK || !equal(l, []api.Row{{-3, -1, 2}, {-4, 4, -1}}) {
		t.Errorf("List = %v, %d", l, e)
	}
	if x, found, e := comma.Least(q, api.Matrix{{4, -4, 1}}); e != api.OK || !found || !slices.Equal(x, api.Row{-4, 4, -1}) {
		t.Errorf("Least = %v, %t, %d", x, found, e)
	}
	if l, e := comma.Combine(p, []api.Row{{-1, 1, 0}}, 2); e != api.OK || !equal(l, []api.Row{{-2, 2, 0}, {-1, 1, 0}}) {
		t.Errorf("Combine = %v, %d", l, e)
	}
}
