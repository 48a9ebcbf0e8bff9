package size_test

import (
	"fmt"
	"testing"

	"schisma/api"
	"schisma/size"
)

// answer is what a function returned.
type answer struct {
	e      api.Errno
	isZero bool // whether all other results are zero values
}

// ofInt returns the answer of a function with an int.
func ofInt(n int, e api.Errno) answer { return answer{e, n == 0} }

// ofSize returns the answer of a function with a size.
func ofSize(s api.Size, e api.Errno) answer { return answer{e, s == nil} }

// ofOrder returns the answer of a function with indices.
func ofOrder(l []int, e api.Errno) answer { return answer{e, l == nil} }

// ofString returns the answer of a function with a string.
func ofString[S ~string](s S, e api.Errno) answer { return answer{e, s == ""} }

// withOne returns what each function of one size answers.
func withOne(p api.Primes, a api.Size) map[string]answer {
	return map[string]answer{
		"Check":    {size.Check(p, a), true},
		"CheckAll": {size.CheckAll(p, []api.Size{a}), true},
		"Scale":    ofSize(size.Scale(p, a, api.Rational{})),
		"Combine":  ofSize(size.Combine(p, []api.Size{a}, nil)),
		"Sign":     ofInt(size.Sign(p, a)),
		"Abs":      ofSize(size.Abs(p, a)),
		"Sort":     ofOrder(size.Sort(p, []api.Size{a})),
		"Text":     ofString(size.Text(p, a)),
	}
}

// withTwo returns what each function of two sizes answers.
func withTwo(p api.Primes, a, b api.Size) map[string]answer {
	return map[string]answer{
		"CheckAll":  {size.CheckAll(p, []api.Size{a, b}), true},
		"Add":       ofSize(size.Add(p, a, b)),
		"Sub":       ofSize(size.Sub(p, a, b)),
		"Combine":   ofSize(size.Combine(p, []api.Size{a, b}, make([]api.Rational, 2))),
		"Compare":   ofInt(size.Compare(p, a, b)),
		"Floor":     ofString(size.Floor(p, a, b)),
		"Round":     ofString(size.Round(p, a, b)),
		"Remainder": ofSize(size.Remainder(p, a, b)),
		"Sort":      ofOrder(size.Sort(p, []api.Size{a, b})),
	}
}

// P1: the error of the list comes first, then those of sizes in order, and nothing else comes with them.
func TestErrors(t *testing.T) {
	expect := func(p api.Primes, what string, got answer, want api.Errno) {
		t.Helper()
		if got.e != want || !got.isZero {
			t.Errorf("%s over %v: %d (other results are zero: %t), not %d", what, p, got.e, got.isZero, want)
		}
	}
	right, two := integral("1", "-2"), api.Primes{2, 3}
	all := append(wrongSizes(), wrongSize{right, api.OK}, wrongSize{integral("0", "0"), api.OK})
	for _, list := range wrongLists() {
		expect(list.p, "CheckAll", answer{size.CheckAll(list.p, nil), true}, list.e)
		expect(list.p, "Zero", ofSize(size.Zero(list.p)), list.e)
		expect(list.p, "Equave", ofSize(size.Equave(list.p)), list.e)
		expect(list.p, "Sort", ofOrder(size.Sort(list.p, nil)), list.e)
		expect(list.p, "Combine", ofSize(size.Combine(list.p, nil, nil)), list.e)
		for _, x := range []api.Row{nil, {1, 0}, {5000, 0}, {1, 2, 3}} {
			expect(list.p, "Of", ofSize(size.Of(list.p, x)), list.e)
		}
		for _, c := range all {
			for name, got := range withOne(list.p, c.s) {
				expect(list.p, name, got, list.e)
			}
			for name, got := range withTwo(list.p, c.s, right) {
				expect(list.p, name, got, list.e)
			}
		}
	}
	for _, c := range wrongSizes() {
		for name, got := range withOne(two, c.s) {
			expect(two, name, got, c.e)
		}
		for _, d := range all {
			for name, got := range withTwo(two, c.s, d.s) {
				expect(two, name, got, c.e)
			}
		}
		for name, got := range withTwo(two, right, c.s) {
			expect(two, name, got, c.e)
		}
	}
}

// Arguments are as before, and results share no memory with them.
func TestArgumentsAreKept(t *testing.T) {
	p, a, b := api.Primes{2, 3}, integral("3", "-1"), integral("1", "0")
	l, factors := []api.Size{a, b}, []api.Rational{rational(1, 1), rational(0, 1)}
	before := fmt.Sprint(p, l, factors)
	withOne(p, a)
	withTwo(p, a, b)
	abs, _ := size.Abs(p, a)
	sum, _ := size.Combine(p, l, factors)
	rest, _ := size.Remainder(p, b, a)
	scaled, _ := size.Scale(p, a, rational(1, 1))
	for _, s := range []api.Size{abs, sum, rest, scaled} {
		s[0] = rational(9, 1)
	}
	if after := fmt.Sprint(p, l, factors); after != before {
		t.Errorf("the arguments are %s, not %s", after, before)
	}
}
