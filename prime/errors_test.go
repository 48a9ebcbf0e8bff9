package prime_test

import (
	"slices"
	"testing"

	"schisma/api"
	"schisma/prime"
)

// answer is what a function returned.
type answer struct {
	e      api.Errno
	isZero bool // whether all other results are zero values
}

// expect checks that a function answered with an error, and nothing else.
func expect(t *testing.T, what string, got answer, want api.Errno) {
	t.Helper()
	if got.e != want || !got.isZero {
		t.Errorf("%s: %d (other results are zero: %t), not %d", what, got.e, got.isZero, want)
	}
}

// withBoth returns what the functions of two lists answer.
func withBoth(p, q api.Primes, x api.Row) map[string]answer {
	is, e := prime.Within(p, q)
	join, f := prime.Join(p, q)
	embedded, g := prime.Embed(p, q, x)
	restricted, h := prime.Restrict(p, q, x)
	return map[string]answer{"Within": {e, !is}, "Join": {f, join == nil}, "Embed": {g, embedded == nil}, "Restrict": {h, restricted == nil}}
}

// P1: errors of lists come first, in order, before those of fractions and rows.
func TestErrorsOfLists(t *testing.T) {
	right := api.Primes{2, 3, 5}
	for _, c := range wrongLists() {
		for _, x := range append(wrongFractions(), api.Rational{Num: "3", Den: "2"}) {
			r, e := prime.Factor(c.p, x)
			expect(t, "Factor", answer{e, r == nil}, c.e)
			is, e := prime.Smooth(c.p, x)
			expect(t, "Smooth", answer{e, !is}, c.e)
		}
		s, e := prime.Text(c.p)
		expect(t, "Text", answer{e, s == ""}, c.e)
		for _, wrong := range append(wrongRows(), wrongRow{x: api.Row{1, 2, 3}}) {
			q, e := prime.Value(c.p, wrong.x)
			expect(t, "Value", answer{e, q == (api.Rational{})}, c.e)
			for _, other := range append(wrongLists(), wrongList{p: right}) {
				for name, got := range withBoth(c.p, other.p, wrong.x) {
					expect(t, name, got, c.e)
				}
			}
			for name, got := range withBoth(right, c.p, wrong.x) {
				expect(t, name, got, c.e)
			}
		}
	}
}

func TestErrorsOfFractionsAndRows(t *testing.T) {
	right := api.Primes{2, 3, 5}
	for _, x := range wrongFractions() {
		r, e := prime.Factor(right, x)
		expect(t, "Factor", answer{e, r == nil}, api.ErrNumber)
		is, e := prime.Smooth(right, x)
		expect(t, "Smooth", answer{e, !is}, api.ErrNumber)
	}
	for _, c := range wrongRows() {
		q, e := prime.Value(right, c.x)
		expect(t, "Value", answer{e, q == (api.Rational{})}, c.e)
		for _, other := range []api.Primes{right, {2}, {7, 11}} { // over which it also could not be
			all := withBoth(right, other, c.x)
			expect(t, "Embed", all["Embed"], c.e)
			expect(t, "Restrict", all["Restrict"], c.e)
		}
	}
}

// Arguments are as before, and results share no memory with them.
func TestArgumentsAreKept(t *testing.T) {
	p, q, x := api.Primes{2, 3, 5}, api.Primes{2, 3, 5, 7}, api.Row{1, -2, 1}
	join, _ := prime.Join(p, p)
	embedded, _ := prime.Embed(p, p, x)
	restricted, _ := prime.Restrict(p, q, x)
	prime.Join(q, p)
	prime.Within(q, p)
	prime.Value(p, x)
	join[0], embedded[0], restricted[0] = 9, 9, 9
	if !slices.Equal(p, api.Primes{2, 3, 5}) || !slices.Equal(q, api.Primes{2, 3, 5, 7}) || !slices.Equal(x, api.Row{1, -2, 1}) {
		t.Errorf("the arguments are %v, %v, %v", p, q, x)
	}
}
