package interval_test

import (
	"fmt"
	"slices"
	"testing"

	"schisma/api"
	"schisma/interval"
)

// answer is what a function returned.
type answer struct {
	e      api.Errno
	isZero bool // whether all other results are zero values
}

// ofList returns what each function of a list answers.
func ofList(p api.Primes, l []api.Row) map[string]answer {
	order, e := interval.Sort(p, l)
	gaps, f := interval.Gaps(p, l)
	classes, g := interval.Classes(p, l)
	nearest, h := interval.Nearest(p, l, nil)
	return map[string]answer{
		"Sort":    {e, order == nil},
		"Gaps":    {f, gaps == nil},
		"Classes": {g, classes == nil},
		"Nearest": {h, nearest == 0},
	}
}

// withOne returns what each function of one interval answers.
func withOne(p api.Primes, x api.Row) map[string]answer {
	rest, n, e := interval.Reduce(p, x)
	inverse, f := interval.Inverse(p, x)
	answers := ofList(p, []api.Row{x, nil})
	answers["Reduce"] = answer{e, rest == nil && n == 0}
	answers["Inverse"] = answer{f, inverse == nil}
	return answers
}

// withTwo returns what each function of two intervals answers.
func withTwo(p api.Primes, x, y api.Row) map[string]answer {
	is, e := interval.Alike(p, x, y)
	n, rest, f := interval.Steps(p, x, y)
	nearest, g := interval.Nearest(p, []api.Row{x}, y)
	answers := ofList(p, []api.Row{x, y})
	answers["Alike"] = answer{e, !is}
	answers["Steps"] = answer{f, n == 0 && rest == nil}
	answers["Nearest"] = answer{g, nearest == 0}
	return answers
}

// P1: the first errors come in their order, and nothing else comes with them.
func TestErrors(t *testing.T) {
	expect := func(p api.Primes, answers map[string]answer, want api.Errno) {
		t.Helper()
		for what, got := range answers {
			if got.e != want || !got.isZero {
				t.Errorf("%s over %v: %d (other results are zero: %t), not %d", what, p, got.e, got.isZero, want)
			}
		}
	}
	right, five := api.Row{1, -2, 1}, api.Primes{2, 3, 5}
	rows := append(wrongRows(), wrongRow{right, api.OK})
	long := slices.Repeat([]api.Row{right}, interval.MaxList+1)
	for _, list := range wrongLists() {
		expect(list.p, ofList(list.p, nil), list.e)
		expect(list.p, ofList(list.p, long), list.e)
		for _, c := range rows {
			expect(list.p, withOne(list.p, c.x), list.e)
			expect(list.p, withTwo(list.p, c.x, right), list.e)
		}
	}
	for _, c := range wrongRows() {
		expect(five, withOne(five, c.x), c.e)
		for _, d := range rows {
			expect(five, withTwo(five, c.x, d.x), c.e)
		}
		expect(five, withTwo(five, right, c.x), c.e)
		// Too many intervals come before those that are not right.
		expect(five, ofList(five, slices.Concat([]api.Row{c.x}, long)), api.ErrLimit)
	}
	expect(five, ofList(five, long), api.ErrLimit)
	if order, e := interval.Sort(five, long[1:]); e != api.OK || len(order) != interval.MaxList {
		t.Errorf("Sort of as many intervals as there can be: %d", e)
	}
}

// Arguments are as before, and results share no memory with them or with each other.
func TestArgumentsAreKept(t *testing.T) {
	p, x, zero := api.Primes{2, 3, 5}, api.Row{-1, 1, 0}, api.Row{0, 0, 0}
	l := []api.Row{x, zero, {0, 1, 0}}
	box := interval.Box{Primes: p, Most: 2, Low: zero, High: x}
	before := fmt.Sprint(p, l, box)
	var results []api.Row
	gaps, _ := interval.Gaps(p, l)
	rest, _, _ := interval.Reduce(p, x)
	inverse, _ := interval.Inverse(p, zero)
	_, left, _ := interval.Steps(p, zero, x)
	list, _ := interval.List(box)
	interval.Sort(p, l)
	interval.Nearest(p, l, x)
	interval.Classes(p, l)
	results = append(slices.Concat(results, gaps, list), rest, inverse, left)
	for i, r := range results {
		for j := range r {
			r[j] = 100 * (i + 1)
		}
	}
	for i, r := range results {
		if !slices.Equal(r, slices.Repeat(api.Row{100 * (i + 1)}, 3)) {
			t.Errorf("result %d is %v", i, r)
		}
	}
	if after := fmt.Sprint(p, l, box); after != before {
		t.Errorf("the arguments are %s, not %s", after, before)
	}
}
