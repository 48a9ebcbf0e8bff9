package val_test

import (
	"math/big"
	"math/rand/v2"
	"slices"
	"testing"

	"schisma/api"
	"schisma/row"
	"schisma/size"
	"schisma/val"
)

const most = api.MaxEntry

// P17.1

func TestCheck(t *testing.T) {
	for _, p := range lists() {
		n := len(p)
		for _, v := range []api.Row{make(api.Row, n), slices.Repeat(api.Row{most}, n), slices.Repeat(api.Row{-most}, n)} {
			if e := val.Check(p, v); e != api.OK {
				t.Errorf("Check(%v, %v) = %d", p, v, e)
			}
		}
	}
	for _, c := range wrongVals() {
		if e := val.Check(api.Primes{2, 3, 5}, c.x); e != c.e {
			t.Errorf("Check(%v) = %d, not %d", c.x, e, c.e)
		}
	}
}

// P17.2

// dot returns the sum of the products of the elements.
func dot(v, x api.Row) *big.Int {
	sum := new(big.Int)
	for i, n := range v {
		sum.Add(sum, new(big.Int).Mul(big.NewInt(int64(n)), big.NewInt(int64(x[i]))))
	}
	return sum
}

// expectSteps checks both functions of a val and an interval.
func expectSteps(t *testing.T, p api.Primes, v, x api.Row) {
	t.Helper()
	want := dot(v, x)
	n, e := val.Steps(p, v, x)
	if isRight := want.CmpAbs(big.NewInt(most)) <= 0; isRight && (e != api.OK || int64(n) != want.Int64()) || !isRight && (e != api.ErrLimit || n != 0) {
		t.Errorf("Steps(%v, %v, %v) = %d, %d, not %v", p, v, x, n, e, want)
	}
	if is, e := val.Tempered(p, v, x); e != api.OK || is != (want.Sign() == 0) {
		t.Errorf("Tempered(%v, %v, %v) = %t, %d, with %v steps", p, v, x, is, e, want)
	}
}

func TestSteps(t *testing.T) {
	r := rand.New(rand.NewPCG(17, 1))
	random := func(n, bound int) api.Row {
		x := make(api.Row, n)
		for i := range x {
			x[i] = r.IntN(2*bound+1) - bound
		}
		return x
	}
	for _, p := range lists() {
		for _, bound := range []int{1, 3, 100, 1_000_000, most} {
			for _, exponent := range []int{1, 2, 50, api.MaxExponent} {
				for range 10 {
					expectSteps(t, p, random(len(p), bound), random(len(p), exponent))
				}
			}
		}
	}
}

// The greatest numbers of steps, and those that only numbers on the way exceed.
func TestStepsAtTheLimit(t *testing.T) {
	p := api.Primes{2, 3, 5}
	for _, c := range []struct{ v, x api.Row }{
		{api.Row{most, 0, 0}, api.Row{1, 0, 0}}, {api.Row{most, 0, 0}, api.Row{-1, 0, 0}}, {api.Row{most, 0, 0}, api.Row{2, 0, 0}}, {api.Row{most, 1, 0}, api.Row{1, 1, 0}}, {api.Row{-most, 1, 0}, api.Row{1, -1, 0}},
		{api.Row{most, most, 0}, api.Row{1000, -1000, 0}}, {api.Row{most, most, 0}, api.Row{1000, -999, 0}}, {api.Row{most, most, 1}, api.Row{1000, -999, 1}}, {api.Row{most, most, -1}, api.Row{1000, -999, 1}},
		{api.Row{most, most, most}, api.Row{1000, 1000, 1000}}, {api.Row{most, most, most}, api.Row{-1000, -1000, -1000}}, {api.Row{1_000_000, 0, 0}, api.Row{1000, 0, 0}}, {api.Row{1_000_001, 0, 0}, api.Row{-1000, 0, 0}},
		{api.Row{0, 0, 0}, api.Row{1000, -1000, 1}}, {api.Row{most, 1, -1}, api.Row{0, 0, 0}},
	} {
		expectSteps(t, p, c.v, c.x)
	}
}

// P17.3

func TestPatent(t *testing.T) {
	for _, p := range lists() {
		for _, steps := range numbers() {
			v, e := val.Patent(p, steps)
			if e != api.OK || len(v) != len(p) || v[0] != steps {
				t.Fatalf("Patent(%v, %d) = %v, %d", p, steps, v, e)
			}
			for i, n := range v {
				// Great powers take long, so that they are compared for few lists.
				isPlace := steps > 1000 && len(p) > 3 || isNearest(p, steps, i, n)
				if nearest, e := val.Nearest(p, steps, i); e != api.OK || nearest != n || !isPlace {
					t.Errorf("over %v the prime %d has %d of %d steps, and Nearest is %d, %d", p, i, n, steps, nearest, e)
				}
				if i > 0 && around(t, p, steps, i)[0] != n {
					t.Errorf("over %v the prime %d has %d of %d steps", p, i, n, steps)
				}
			}
		}
	}
}

// P17.6

// Steps are additive.
func TestStepsOfSums(t *testing.T) {
	p, v := api.Primes{2, 3, 5}, api.Row{12, 19, 28}
	intervals := []api.Row{{0, 0, 0}, {1, 0, 0}, {-1, 1, 0}, {-4, 4, -1}, {-2, 0, 1}, {7, -11, 500}}
	for _, x := range intervals {
		for _, y := range intervals {
			sum, _ := row.Add(x, y)
			a, _ := val.Steps(p, v, x)
			b, _ := val.Steps(p, v, y)
			if n, e := val.Steps(p, v, sum); e != api.OK || n != a+b {
				t.Errorf("Steps of %v and %v: %d, not %d", x, y, n, a+b)
			}
		}
	}
}

// The patent val is uniform, its name is its number, and the error of a prime is at most half of the equave.
func TestPatentVals(t *testing.T) {
	half := api.Rational{Num: "1", Den: "2"}
	for _, p := range lists() {
		equave, _ := size.Equave(p)
		limit, _ := size.Scale(p, equave, half)
		for _, steps := range numbers() {
			v, _ := val.Patent(p, steps)
			if is, e := val.Uniform(p, v); e != api.OK || !is {
				t.Errorf("Uniform(%v, %v) = %t, %d", p, v, is, e)
			}
			if name, e := val.Name(p, v); e != api.OK || name != string(integer(steps).Num) {
				t.Errorf("Name(%v, %v) = %q, %d", p, v, name, e)
			}
			for i, n := range v {
				unit, _ := row.Unit(len(p), i)
				prime, _ := size.Of(p, unit)
				wrong, e := size.Combine(p, []api.Size{prime, equave}, []api.Rational{integer(steps), integer(-n)})
				wrong, _ = size.Abs(p, wrong)
				if order, f := size.Compare(p, wrong, limit); e != api.OK || f != api.OK || order > 0 {
					t.Errorf("over %v the error of the prime %d for %d steps is %v", p, i, steps, wrong)
				}
			}
		}
	}
}

// integer returns the fraction of an integer.
func integer(n int) api.Rational {
	return api.Rational{Num: api.Int(big.NewInt(int64(n)).String()), Den: "1"}
}

// The examples of the document.
func TestExamples(t *testing.T) {
	p := api.Primes{2, 3, 5}
	if v, e := val.Patent(p, 12); e != api.OK || !slices.Equal(v, api.Row{12, 19, 28}) {
		t.Errorf("Patent = %v, %d", v, e)
	}
	if n, e := val.Steps(p, api.Row{12, 19, 28}, api.Row{-4, 4, -1}); e != api.OK || n != 0 {
		t.Errorf("Steps = %d, %d", n, e)
	}
	for name, v := range map[string]api.Row{"12b": {12, 20, 28}, "12c": {12, 19, 27}, "12bb": {12, 18, 28}, "12": {12, 19, 28}} {
		if s, e := val.Name(p, v); e != api.OK || s != name {
			t.Errorf("Name(%v) = %q, %d", v, s, e)
		}
		if w, e := val.Parse(p, name); e != api.OK || !slices.Equal(v, w) {
			t.Errorf("Parse(%q) = %v, %d", name, w, e)
		}
	}
	want := []api.Row{{5, 7, 10}, {5, 7, 11}, {5, 8, 11}, {5, 8, 12}, {5, 9, 12}, {5, 9, 13}}
	if l, e := val.Between(p, 5, 5); e != api.OK || !equal(l, want) {
		t.Errorf("Between = %v, %d", l, e)
	}
}
