package monzo_test

import (
	"slices"
	"testing"

	"schisma/api"
	"schisma/monzo"
)

// answer is what a function returned.
type answer struct {
	e      api.Errno
	isZero bool // whether all other results are zero values
}

// ofInt returns the answer of a function with an int.
func ofInt(n int, e api.Errno) answer { return answer{e, n == 0} }

// ofRow returns the answer of a function with a row.
func ofRow(x api.Row, e api.Errno) answer { return answer{e, x == nil} }

// ofString returns the answer of a function with a string.
func ofString[S ~string](s S, e api.Errno) answer { return answer{e, s == ""} }

// withOne returns what each function of one interval answers.
func withOne(p api.Primes, x api.Row) map[string]answer {
	q, e := monzo.Fraction(p, x)
	is, f := monzo.Superparticular(p, x)
	return map[string]answer{
		"Check":           {monzo.Check(p, x), true},
		"CheckAll":        {monzo.CheckAll(p, []api.Row{x}), true},
		"Fraction":        {e, q == (api.Rational{})},
		"Text":            ofString(monzo.Text(p, x)),
		"Brackets":        ofString(monzo.Brackets(p, x)),
		"Neg":             ofRow(monzo.Neg(p, x)),
		"Power":           ofRow(monzo.Power(p, x, 5000)),
		"Sign":            ofInt(monzo.Sign(p, x)),
		"Product":         ofString(monzo.Product(p, x)),
		"Greater":         ofString(monzo.Greater(p, x)),
		"Odd":             ofString(monzo.Odd(p, x)),
		"Superparticular": {f, !is},
	}
}

// withTwo returns what each function of two intervals answers.
func withTwo(p api.Primes, x, y api.Row) map[string]answer {
	return map[string]answer{
		"CheckAll": {monzo.CheckAll(p, []api.Row{x, y}), true},
		"Add":      ofRow(monzo.Add(p, x, y)),
		"Sub":      ofRow(monzo.Sub(p, x, y)),
		"Compare":  ofInt(monzo.Compare(p, x, y)),
	}
}

// P1: the error of the list comes first, then those of intervals in order, and nothing else comes with them.
func TestErrors(t *testing.T) {
	expect := func(p api.Primes, what string, got answer, want api.Errno) {
		t.Helper()
		if got.e != want || !got.isZero {
			t.Errorf("%s over %v: %d (other results are zero: %t), not %d", what, p, got.e, got.isZero, want)
		}
	}
	right, five := api.Row{1, -2, 1}, api.Primes{2, 3, 5}
	rows := append(wrongRows(), wrongRow{right, api.OK})
	for _, list := range wrongLists() {
		expect(list.p, "CheckAll", answer{monzo.CheckAll(list.p, nil), true}, list.e)
		for _, s := range []string{"", "3/2", "7/0", "[1 0 0>", "[x", "[1 2>", "0"} {
			expect(list.p, "Parse", ofRow(monzo.Parse(list.p, s)), list.e)
		}
		for _, q := range []api.Rational{{}, {Num: "3", Den: "2"}, {Num: "7", Den: "1"}, {Num: "0", Den: "1"}} {
			expect(list.p, "Of", ofRow(monzo.Of(list.p, q)), list.e)
		}
		for _, c := range rows {
			for name, got := range withOne(list.p, c.x) {
				expect(list.p, name, got, list.e)
			}
			for name, got := range withTwo(list.p, c.x, right) {
				expect(list.p, name, got, list.e)
			}
		}
	}
	for _, c := range wrongRows() {
		for name, got := range withOne(five, c.x) {
			expect(five, name, got, c.e)
		}
		for _, d := range rows {
			for name, got := range withTwo(five, c.x, d.x) {
				expect(five, name, got, c.e)
			}
		}
		for name, got := range withTwo(five, right, c.x) {
			expect(five, name, got, c.e)
		}
	}
}

// Arguments are as before, and results share no memory with them.
func TestArgumentsAreKept(t *testing.T) {
	p, x, y := api.Primes{2, 3, 5}, api.Row{1, -2, 1}, api.Row{0, 0, 0}
	withOne(p, x)
	withTwo(p, x, y)
	sum, _ := monzo.Add(p, x, y)
	difference, _ := monzo.Sub(p, x, y)
	power, _ := monzo.Power(p, x, 1)
	sum[0], difference[0], power[0] = 9, 9, 9
	if !slices.Equal(p, api.Primes{2, 3, 5}) || !slices.Equal(x, api.Row{1, -2, 1}) || !slices.Equal(y, api.Row{0, 0, 0}) {
		t.Errorf("the arguments are %v, %v, %v", p, x, y)
	}
}
