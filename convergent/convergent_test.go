package convergent_test

import (
	"math"
	"math/big"
	"math/rand/v2"
	"slices"
	"strings"
	"testing"

	"schisma/api"
	"schisma/convergent"
)

// badBounds are no bounds.
func badBounds() []int {
	return []int{0, -1, convergent.MaxBound + 1, math.MinInt, math.MaxInt}
}

// P4.1

func TestTermsAndConvergents(t *testing.T) {
	for _, x := range slices.Concat(smallSamples(), longSamples(), []api.Rational{golden(0, 900), golden(-1, 900), golden(7, 998)}) {
		want := termsOf(standard(t, x))
		l, e := convergent.Terms(x)
		expectList(t, "Terms of "+short(x), l, e, texts(want))
		c, e := convergent.Convergents(x)
		if e != api.OK || len(c) != len(want) || c[len(c)-1] != x {
			t.Errorf("Convergents(%s): %d of them, %d", short(x), len(c), e)
			continue
		}
		step := 1 + len(want)/20 // a choice of long lists is enough
		for i := 0; i < len(want); i += step {
			if value := ofStandard(valueOf(want[:i+1])); c[i] != value {
				t.Errorf("Convergents(%s)[%d] = %s, not %s", short(x), i, short(c[i]), short(value))
			}
		}
	}
}

func TestTermsOfExamples(t *testing.T) {
	for _, c := range []struct {
		x    api.Rational
		want string
	}{{rational(7, 12), "0 1 1 2 2"}, {rational(-7, 3), "-3 1 2"}, {rational(5, 1), "5"}, {rational(0, 1), "0"}, {rational(-1, 2), "-1 2"}, {rational(-6, 1), "-6"}, {rational(1, 2), "0 2"}, {rational(355, 113), "3 7 16"}} {
		l, e := convergent.Terms(c.x)
		expectList(t, "Terms of "+short(c.x), l, e, ints(c.want))
	}
	c, e := convergent.Convergents(rational(7, 12))
	expectList(t, "Convergents of 7/12", c, e, []api.Rational{rational(0, 1), rational(1, 1), rational(1, 2), rational(3, 5), rational(7, 12)})
}

func TestMostTerms(t *testing.T) {
	for _, first := range []int{0, 1, -1, 1000, -1000} {
		most, more := golden(first, convergent.MaxTerms-2), golden(first, convergent.MaxTerms-1)
		l, e := convergent.Terms(most)
		if len(l) != convergent.MaxTerms || e != api.OK {
			t.Errorf("%d terms, %d", len(l), e)
		}
		c, e := convergent.Convergents(most)
		if len(c) != convergent.MaxTerms || e != api.OK || c[len(c)-1] != most {
			t.Errorf("%d convergents, %d", len(c), e)
		}
		l, e = convergent.Terms(more)
		c, f := convergent.Convergents(more)
		if l != nil || c != nil || e != api.ErrLimit || f != api.ErrLimit {
			t.Errorf("%d terms, %d; %d convergents, %d", len(l), e, len(c), f)
		}
	}
}

// P4.2

func TestValue(t *testing.T) {
	for _, text := range []string{"0", "5", "-5", "0 1 1 2 2", "0 1 1 2 1 1", "3 1", "-1 1", "-1 2", "-2 1 1", "0 1", "0 1 1", "7 15 1 292", "-3 1000000000000000000000000000000 5", "99999999999999999999 1 1 1 88888888888888888888"} {
		terms := ints(text)
		var numbers []*big.Int
		for _, a := range terms {
			n, _ := new(big.Int).SetString(string(a), 10)
			numbers = append(numbers, n)
		}
		if x, e := convergent.Value(terms); x != ofStandard(valueOf(numbers)) || e != api.OK {
			t.Errorf("Value(%s) = %v, %d", text, x, e)
		}
	}
	for _, x := range slices.Concat(smallSamples(), longSamples()) {
		terms, _ := convergent.Terms(x)
		if len(terms) == 0 {
			continue
		}
		if y, e := convergent.Value(terms); y != x || e != api.OK {
			t.Errorf("Value of the terms of %s = %s, %d", short(x), short(y), e)
		}
		last, _ := new(big.Int).SetString(string(terms[len(terms)-1]), 10)
		if len(terms) > 1 && len(terms) < convergent.MaxTerms {
			split := append(slices.Clone(terms[:len(terms)-1]), api.Int(last.Sub(last, big.NewInt(1)).String()), "1")
			if y, e := convergent.Value(split); y != x || e != api.OK {
				t.Errorf("Value of other terms of %s = %s, %d", short(x), short(y), e)
			}
		}
	}
	if x, e := convergent.Value(slices.Repeat([]api.Int{"1"}, convergent.MaxTerms)); x != golden(1, convergent.MaxTerms-3) || e != api.OK {
		t.Errorf("Value of as many terms as possible = %v, %d", x, e)
	}
}

func TestValueErrors(t *testing.T) {
	ones := slices.Repeat([]api.Int{"1"}, convergent.MaxTerms+1)
	long, longer := api.Int(strings.Repeat("9", api.MaxDigits)), api.Int(strings.Repeat("9", api.MaxDigits+1))
	half := api.Int("1" + strings.Repeat("0", api.MaxDigits/2))
	for i, c := range []struct {
		terms []api.Int
		want  api.Errno
	}{
		{nil, api.ErrEmpty},
		{[]api.Int{}, api.ErrEmpty},
		{ones, api.ErrLimit},
		{append(slices.Clone(ones), "x", "0"), api.ErrLimit},
		{append([]api.Int{"x"}, ones...), api.ErrLimit},
		{ints("x"), api.ErrNumber},
		{[]api.Int{""}, api.ErrNumber},
		{ints("01"), api.ErrNumber},
		{ints("-0"), api.ErrNumber},
		{ints("1 02"), api.ErrNumber},
		{ints("1 +2"), api.ErrNumber},
		{ints("1 0"), api.ErrRange},
		{ints("1 -1"), api.ErrRange},
		{ints("0 0"), api.ErrRange},
		{ints("1 2 3 -4 x"), api.ErrRange},
		{ints("1 2 3 x -4"), api.ErrNumber},
		{[]api.Int{longer}, api.ErrNumber},
		{[]api.Int{"0", longer}, api.ErrNumber},
		{[]api.Int{"0", "-" + longer}, api.ErrNumber},
		{[]api.Int{long, "1"}, api.ErrNumber},                 // 1 and 400 zeros
		{[]api.Int{"0", long, "1"}, api.ErrNumber},            // its inverse
		{[]api.Int{half, half}, api.ErrNumber},                // 401 digits, and 201
		{[]api.Int{"0", half, half, "1"}, api.ErrNumber},      // 402 and 401
		{[]api.Int{"-1", "1", half, half}, api.ErrNumber},     // negative
		{[]api.Int{long, long, "0"}, api.ErrRange},            // wrong terms first
		{[]api.Int{long, long, "x"}, api.ErrNumber},           //
		{slices.Repeat([]api.Int{long}, 1000), api.ErrNumber}, // as long as possible
	} {
		if x, e := convergent.Value(c.terms); x != (api.Rational{}) || e != c.want {
			t.Errorf("%d: Value = %s, %d", i, short(x), e)
		}
	}
	below := "-" + long[:api.MaxDigits-1] + "8"
	for _, terms := range [][]api.Int{{long}, {"-" + long}, {"0", long}, {"-1", long}, {"-" + long, "1"}, {below, "1"}, {long[:200], long[200:]}, {"0", long[:len(long)-1] + "8", "1"}} {
		if x, e := convergent.Value(terms); e != api.OK || x == (api.Rational{}) {
			t.Errorf("Value(%.50q) = %s, %d", terms, short(x), e)
		}
	}
}

// P4.3

func TestSemiconvergents(t *testing.T) {
	for _, x := range smallSamples() {
		for _, bound := range []int{1, 2, 3, 4, 5, 6, 7, 10, 11, 12, 49, 50, 113, 300, convergent.MaxBound} {
			l, e := convergent.Semiconvergents(x, bound)
			expectList(t, "Semiconvergents of "+short(x), l, e, allOfStandard(semiconvergentsOf(standard(t, x), bound)))
		}
	}
	for _, x := range longSamples() {
		if terms, _ := convergent.Terms(x); len(terms) == 0 {
			continue
		}
		for _, bound := range []int{1, 2, 10, 999, 1000, 1001, convergent.MaxBound} {
			l, e := convergent.Semiconvergents(x, bound)
			expectList(t, "Semiconvergents of "+short(x), l, e, allOfStandard(semiconvergentsOf(standard(t, x), bound)))
		}
	}
}

func TestSemiconvergentsErrors(t *testing.T) {
	x := rational(1, 5000) // its semiconvergents are 0 and 1, 1/2, 1/3 ..
	if l, e := convergent.Semiconvergents(x, convergent.MaxTerms-1); len(l) != convergent.MaxTerms || e != api.OK {
		t.Errorf("%d semiconvergents, %d", len(l), e)
	}
	if l, e := convergent.Semiconvergents(x, convergent.MaxTerms); l != nil || e != api.ErrLimit {
		t.Errorf("%d semiconvergents, %d", len(l), e)
	}
	// The number of all terms counts, even if there are few semiconvergents of the bound.
	if l, e := convergent.Semiconvergents(golden(0, convergent.MaxTerms-2), 1); !slices.Equal(l, []api.Rational{rational(0, 1), rational(1, 1)}) || e != api.OK {
		t.Errorf("semiconvergents %v, %d", l, e)
	}
	if l, e := convergent.Semiconvergents(golden(0, convergent.MaxTerms-1), 1); l != nil || e != api.ErrLimit {
		t.Errorf("semiconvergents %v, %d", l, e)
	}
	for _, bound := range badBounds() {
		if l, e := convergent.Semiconvergents(golden(0, convergent.MaxTerms), bound); l != nil || e != api.ErrRange {
			t.Errorf("semiconvergents %v, %d", l, e)
		}
	}
}

// P4.4

func TestNearestAndBest(t *testing.T) {
	for _, x := range smallSamples() {
		for _, bound := range []int{1, 2, 3, 4, 5, 6, 7, 11, 12, 30} {
			checkNearestAndBest(t, x, bound)
		}
	}
	for _, x := range longSamples() {
		for _, bound := range []int{1, 2, 3, 11, 20} {
			checkNearestAndBest(t, x, bound)
		}
	}
	l, e := convergent.Best(rational(7, 12), 7)
	expectList(t, "Best of 7/12", l, e, []api.Rational{rational(1, 1), rational(1, 2), rational(3, 5), rational(4, 7)})
}

// checkNearestAndBest compares both functions with the definitions.
func checkNearestAndBest(t *testing.T, x api.Rational, bound int) {
	t.Helper()
	y := standard(t, x)
	want := ofStandard(nearestOf(y, bound))
	if n, e := convergent.Nearest(x, bound); n != want || e != api.OK {
		t.Errorf("Nearest(%s, %d) = %s, %d, not %s", short(x), bound, short(n), e, short(want))
	}
	l, e := convergent.Best(x, bound)
	expectList(t, "Best of "+short(x), l, e, allOfStandard(bestOf(y, bound)))
}

// Of two fractions that are equally near, the one with the lesser denominator, and then the lesser one, is taken.
func TestTies(t *testing.T) {
	for _, c := range []struct {
		x     api.Rational
		bound int
		want  string
	}{
		{rational(1, 2), 1, "0"}, {rational(-1, 2), 1, "-1"}, {rational(5, 2), 1, "2"}, {rational(-5, 2), 1, "-3"}, {rational(3, 2), 1, "1"},
		{rational(1, 4), 2, "0"}, {rational(3, 4), 2, "1"}, {rational(-1, 4), 2, "0"}, {rational(-3, 4), 2, "-1"}, {rational(5, 12), 3, "1/2"}, {rational(7, 12), 3, "1/2"},
	} {
		want := valueOfText(c.want)
		if n, e := convergent.Nearest(c.x, c.bound); n != want || e != api.OK {
			t.Errorf("Nearest(%s, %d) = %s, %d", short(c.x), c.bound, short(n), e)
		}
		if l, e := convergent.Best(c.x, c.bound); len(l) == 0 || l[len(l)-1] != want || e != api.OK {
			t.Errorf("Best(%s, %d) = %v, %d", short(c.x), c.bound, l, e)
		}
	}
}

// valueOfText returns the fraction of a text.
func valueOfText(s string) api.Rational {
	x, _ := new(big.Rat).SetString(s)
	return ofStandard(x)
}

// With the greatest bounds the nearest fraction is the last best one; also numbers of more than MaxTerms terms have both.
func TestGreatBounds(t *testing.T) {
	for _, x := range append(longSamples(), golden(0, 1800), golden(-5, 1800)) {
		for _, bound := range []int{999, 1000, 999_983, convergent.MaxBound - 1, convergent.MaxBound} {
			n, e := convergent.Nearest(x, bound)
			if e != api.OK {
				t.Errorf("Nearest(%s, %d): %d", short(x), bound, e)
			}
			l, f := convergent.Best(x, bound)
			if f == api.OK && l[len(l)-1] != n || f != api.OK && (f != api.ErrLimit || l != nil) {
				t.Errorf("Best(%s, %d): %d of them, %d", short(x), bound, len(l), f)
			}
			all, g := convergent.Semiconvergents(x, bound)
			for _, y := range l {
				if g == api.OK && !slices.Contains(all, y) {
					t.Errorf("%s is a best approximation of %s, but no semiconvergent", short(y), short(x))
				}
			}
		}
	}
}

func TestBestErrors(t *testing.T) {
	x := rational(1, 2000) // after 0, the first one that is nearer is 1/1001
	if l, e := convergent.Best(x, 1999); len(l) != convergent.MaxTerms || l[0] != rational(0, 1) || l[1] != rational(1, 1001) || l[999] != rational(1, 1999) || e != api.OK {
		t.Errorf("Best: %d of them, %d", len(l), e)
	}
	if l, e := convergent.Best(x, 2000); l != nil || e != api.ErrLimit {
		t.Errorf("Best: %d of them, %d", len(l), e)
	}
	if l, e := convergent.Best(rational(1999, 2000), 1999); len(l) != convergent.MaxTerms || l[0] != rational(1, 1) || e != api.OK {
		t.Errorf("Best: %d of them, %d", len(l), e)
	}
	if l, e := convergent.Best(rational(1999, 2000), 2000); l != nil || e != api.ErrLimit {
		t.Errorf("Best: %d of them, %d", len(l), e)
	}
	tiny := api.Rational{Num: "1", Den: api.Int("1" + strings.Repeat("0", 300))}
	if l, e := convergent.Best(tiny, convergent.MaxBound); !slices.Equal(l, []api.Rational{rational(0, 1)}) || e != api.OK {
		t.Errorf("Best of a small number = %v, %d", l, e)
	}
	for _, bound := range badBounds() {
		l, e := convergent.Best(x, bound)
		n, f := convergent.Nearest(x, bound)
		a, b, g := convergent.Neighbours(x, bound)
		if l != nil || n != (api.Rational{}) || a != n || b != n || e != api.ErrRange || f != api.ErrRange || g != api.ErrRange {
			t.Errorf("bound %d: %d, %d, %d", bound, e, f, g)
		}
	}
}

// P4.5

func TestNeighbours(t *testing.T) {
	check := func(x api.Rational, bound int) {
		below, above := neighboursOf(standard(t, x), bound)
		if a, b, e := convergent.Neighbours(x, bound); a != ofStandard(below) || b != ofStandard(above) || e != api.OK {
			t.Errorf("Neighbours(%s, %d) = %s, %s, %d", short(x), bound, short(a), short(b), e)
		}
	}
	for _, x := range smallSamples() {
		for _, bound := range []int{1, 2, 3, 4, 5, 6, 7, 10, 11, 12, 22, 23, 49, 50, 51, 99, 112, 113, 114, 226, 300} {
			check(x, bound)
		}
	}
	for _, x := range longSamples() {
		if len(x.Den) > 1 {
			check(x, 9)
		}
	}
	for _, x := range []api.Rational{rational(999_999, 1_000_000), rational(1, 999_983), rational(-314_159, 100_000), rational(617, 499_999)} {
		checkFarey(t, x, convergent.MaxBound)
	}
}

// Of a number that is no fraction of the bound, the neighbours are next to each other, and between such ones denominators are at least the sum.
func TestFareyNeighbours(t *testing.T) {
	for _, x := range append(longSamples(), golden(0, 1800), golden(-5, 1800)) {
		for _, bound := range []int{1, 7, 1000, convergent.MaxBound - 1, convergent.MaxBound} {
			if standard(t, x).Denom().Cmp(big.NewInt(int64(bound))) > 0 {
				checkFarey(t, x, bound)
			}
		}
	}
}

// checkFarey checks that no fraction of the bound is nearer than the neighbours: x lies between them, the next one between each of them and x has a greater denominator.
func checkFarey(t *testing.T, x api.Rational, bound int) {
	t.Helper()
	a, b, e := convergent.Neighbours(x, bound)
	if e != api.OK {
		t.Errorf("Neighbours(%s, %d): %d", short(x), bound, e)
		return
	}
	y, below, above := standard(t, x), standard(t, a), standard(t, b)
	most := big.NewInt(int64(bound))
	if below.Cmp(y) >= 0 || above.Cmp(y) <= 0 || below.Denom().Cmp(most) > 0 || above.Denom().Cmp(most) > 0 {
		t.Errorf("Neighbours(%s, %d) = %s, %s", short(x), bound, short(a), short(b))
	}
	if y.Denom().Cmp(most) > 0 {
		checkAdjacent(t, below, above, most)
		return
	}
	checkAdjacent(t, below, y, most)
	checkAdjacent(t, y, above, most)
}

// checkAdjacent checks that no fraction of the bound lies between two.
func checkAdjacent(t *testing.T, low, high *big.Rat, bound *big.Int) {
	t.Helper()
	determinant := new(big.Int).Mul(low.Denom(), high.Num())
	determinant.Sub(determinant, new(big.Int).Mul(low.Num(), high.Denom()))
	if determinant.Cmp(big.NewInt(1)) != 0 || new(big.Int).Add(low.Denom(), high.Denom()).Cmp(bound) <= 0 {
		t.Errorf("there are fractions between %v and %v", low, high)
	}
}

// Neighbours of the longest integers can have too many digits.
func TestLongNeighbours(t *testing.T) {
	nines := api.Int(strings.Repeat("9", api.MaxDigits))
	eight := nines[:api.MaxDigits-1] + "8"
	zero := api.Rational{}
	for _, c := range []struct {
		x     api.Rational
		bound int
		e     api.Errno
	}{
		{api.Rational{Num: nines, Den: "1"}, 1, api.ErrNumber},
		{api.Rational{Num: "-" + nines, Den: "1"}, 1, api.ErrNumber},
		{api.Rational{Num: eight, Den: "1"}, 1, api.OK},
		{api.Rational{Num: "-" + eight, Den: "1"}, 1, api.OK},
		{api.Rational{Num: eight, Den: "1"}, 2, api.ErrNumber},
		{api.Rational{Num: nines[2:], Den: "1"}, 99, api.OK},
		{api.Rational{Num: nines[2:], Den: "1"}, 101, api.ErrNumber},
		{api.Rational{Num: nines, Den: "2"}, 1, api.OK},
		{api.Rational{Num: nines, Den: "1000000"}, convergent.MaxBound - 1, api.OK},
	} {
		a, b, e := convergent.Neighbours(c.x, c.bound)
		if e != c.e || e != api.OK && (a != zero || b != zero) {
			t.Errorf("Neighbours(%s, %d) = %s, %s, %d", short(c.x), c.bound, short(a), short(b), e)
		}
		if c.e == api.OK {
			checkFarey(t, c.x, c.bound)
		}
		if n, e := convergent.Nearest(c.x, c.bound); e != api.OK || n == zero {
			t.Errorf("Nearest(%s, %d) = %s, %d", short(c.x), c.bound, short(n), e)
		}
	}
}

func TestSimplest(t *testing.T) {
	samples := smallSamples()
	r := rand.New(rand.NewPCG(31, 32))
	for range 3000 {
		low, high := samples[r.IntN(len(samples))], samples[r.IntN(len(samples))]
		checkSimplest(t, low, high)
	}
	for _, x := range samples {
		checkSimplest(t, x, x)
		for _, distance := range []int64{20, 500} {
			y := standard(t, x)
			checkSimplest(t, x, ofStandard(y.Add(y, big.NewRat(1, distance))))
		}
	}
	for _, c := range [][3]string{{"3/10", "2/5", "1/3"}, {"-5/2", "-1/3", "-1"}, {"-1/2", "1/2", "0"}, {"-7", "9", "0"}, {"-9", "-7", "-7"}, {"7", "9", "7"}, {"0", "0", "0"}, {"-1/3", "0", "0"}, {"5/3", "2", "2"}, {"-2/5", "-3/10", "-1/3"}, {"13/5", "8/3", "8/3"}} {
		if x, e := convergent.Simplest(valueOfText(c[0]), valueOfText(c[1])); x != valueOfText(c[2]) || e != api.OK {
			t.Errorf("Simplest(%s, %s) = %v, %d", c[0], c[1], x, e)
		}
	}
}

// checkSimplest compares Simplest with its definition.
func checkSimplest(t *testing.T, low, high api.Rational) {
	t.Helper()
	x, e := convergent.Simplest(low, high)
	if standard(t, low).Cmp(standard(t, high)) > 0 {
		if x != (api.Rational{}) || e != api.ErrOrder {
			t.Errorf("Simplest(%s, %s) = %v, %d", short(low), short(high), x, e)
		}
		return
	}
	if want := ofStandard(simplestOf(standard(t, low), standard(t, high))); x != want || e != api.OK {
		t.Errorf("Simplest(%s, %s) = %v, %d, not %v", short(low), short(high), x, e, want)
	}
}

// Of long fractions: x alone is the simplest one from x to x, and a neighbour is that of all from it on that do not go beyond the number.
func TestLongSimplest(t *testing.T) {
	for _, x := range append(longSamples(), golden(0, 1800), golden(-5, 1800)) {
		if y, e := convergent.Simplest(x, x); y != x || e != api.OK {
			t.Errorf("Simplest(%s, %s) = %s, %d", short(x), short(x), short(y), e)
		}
		if len(x.Den) < 7 {
			continue
		}
		n, _ := convergent.Nearest(x, 30_000)
		low, high := x, n
		if standard(t, low).Cmp(standard(t, high)) > 0 {
			low, high = high, low
		}
		y, e := convergent.Simplest(low, high)
		a, b, f := convergent.Neighbours(x, 30_000)
		if e != api.OK || f != api.OK || len(y.Den) > len(n.Den) || standard(t, y).Cmp(standard(t, low)) < 0 || standard(t, y).Cmp(standard(t, high)) > 0 {
			t.Errorf("Simplest(%s, %s) = %s, %d", short(low), short(high), short(y), e)
		}
		if z, e := convergent.Simplest(a, b); e != api.OK || z != a && z != b {
			t.Errorf("Simplest(%s, %s) = %s, %d", short(a), short(b), short(z), e)
		}
	}
	r := rand.New(rand.NewPCG(33, 34))
	for range 30 {
		low := new(big.Rat).SetFrac(randomInt(r, api.MaxDigits), randomInt(r, api.MaxDigits-2))
		high := new(big.Rat).SetFrac(randomInt(r, api.MaxDigits), randomInt(r, api.MaxDigits-2))
		if low.Cmp(high) > 0 {
			low, high = high, low
		}
		if x, e := convergent.Simplest(ofStandard(low), ofStandard(high)); x != ofStandard(simplestOf(low, high)) || e != api.OK {
			t.Errorf("Simplest of long ends = %s, %d", short(x), e)
		}
	}
}

func TestMediant(t *testing.T) {
	for _, c := range [][3]string{{"1/3", "1", "1/2"}, {"0", "1", "1/2"}, {"-1/2", "1/2", "0"}, {"-1", "1", "0"}, {"2/3", "2/3", "2/3"}, {"1/2", "2/3", "3/5"}, {"-7/2", "1/5", "-6/7"}, {"999999999999999999", "9/10", "1000000000000000008/11"}, {"5", "7", "6"}} {
		a, b, want := valueOfText(c[0]), valueOfText(c[1]), valueOfText(c[2])
		x, e := convergent.Mediant(a, b)
		y, f := convergent.Mediant(b, a)
		if x != want || y != want || e != api.OK || f != api.OK {
			t.Errorf("Mediant(%s, %s) = %v, %d", c[0], c[1], x, e)
		}
	}
	samples := slices.Concat(smallSamples()[:40], longSamples())
	for _, a := range samples {
		for _, b := range samples {
			checkMediant(t, a, b)
		}
	}
}

// checkMediant compares Mediant with its definition; a sum of too many digits is ErrNumber.
func checkMediant(t *testing.T, a, b api.Rational) {
	t.Helper()
	x, y := standard(t, a), standard(t, b)
	num, den := new(big.Int).Add(x.Num(), y.Num()), new(big.Int).Add(x.Denom(), y.Denom())
	m, e := convergent.Mediant(a, b)
	if len(new(big.Int).Abs(num).String()) > api.MaxDigits || len(den.String()) > api.MaxDigits {
		if m != (api.Rational{}) || e != api.ErrNumber {
			t.Errorf("Mediant(%s, %s) = %s, %d", short(a), short(b), short(m), e)
		}
		return
	}
	want := new(big.Rat).SetFrac(num, den)
	if m != ofStandard(want) || e != api.OK {
		t.Errorf("Mediant(%s, %s) = %s, %d", short(a), short(b), short(m), e)
	}
	if order := x.Cmp(y); order != want.Cmp(y) || order != x.Cmp(want) {
		t.Errorf("the mediant of %s and %s is not between them", short(a), short(b))
	}
}

// P4.6

func TestPathAndAt(t *testing.T) {
	for _, x := range smallSamples() {
		y := standard(t, x)
		p, e := convergent.Path(x)
		if y.Sign() <= 0 {
			if p != "" || e != api.ErrRange {
				t.Errorf("Path(%s) = %q, %d", short(x), p, e)
			}
			continue
		}
		if p != wayOf(y) || e != api.OK {
			t.Errorf("Path(%s) = %q, %d", short(x), p, e)
		}
		if z, e := convergent.At(p); z != x || e != api.OK {
			t.Errorf("At(%q) = %s, %d", p, short(z), e)
		}
	}
	for _, c := range []struct {
		x    api.Rational
		want string
	}{{rational(1, 1), ""}, {rational(2, 1), "R"}, {rational(1, 2), "L"}, {rational(3, 5), "LRL"}, {rational(4, 1), "RRR"}, {rational(1, 4), "LLL"}, {rational(7, 5), "RLLR"}} {
		if p, e := convergent.Path(c.x); p != c.want || e != api.OK {
			t.Errorf("Path(%s) = %q, %d", short(c.x), p, e)
		}
	}
}

func TestLongPaths(t *testing.T) {
	r := rand.New(rand.NewPCG(41, 42))
	for i := range 60 {
		letters := []byte(strings.Repeat("LR", convergent.MaxPath/2))
		for range i * i {
			letters[r.IntN(len(letters))] = "LR"[r.IntN(2)]
		}
		way := string(letters)
		x, e := convergent.At(way)
		if e != api.OK || wayOf(standard(t, x)) != way {
			t.Errorf("At(%s..) = %s, %d", way[:30], short(x), e)
		}
		if p, e := convergent.Path(x); p != way || e != api.OK {
			t.Errorf("Path(%s) = %d letters, %d", short(x), len(p), e)
		}
	}
	// The way to a number of 1001 terms can still have 1000 letters.
	if p, e := convergent.Path(golden(0, convergent.MaxTerms-1)); p != strings.Repeat("LR", convergent.MaxPath/2) || e != api.OK {
		t.Errorf("%d letters, %d", len(p), e)
	}
	if p, e := convergent.Path(rational(convergent.MaxPath+1, 1)); p != strings.Repeat("R", convergent.MaxPath) || e != api.OK {
		t.Errorf("%d letters, %d", len(p), e)
	}
	if p, e := convergent.Path(rational(1, convergent.MaxPath+1)); p != strings.Repeat("L", convergent.MaxPath) || e != api.OK {
		t.Errorf("%d letters, %d", len(p), e)
	}
	if p, e := convergent.Path(rational(500*501+1, 501)); p != strings.Repeat("R", 500)+strings.Repeat("L", 500) || e != api.OK {
		t.Errorf("%d letters, %d", len(p), e)
	}
}

func TestPathErrors(t *testing.T) {
	long := []api.Rational{golden(0, convergent.MaxTerms), golden(1, convergent.MaxTerms-1), golden(0, 1800), rational(convergent.MaxPath+2, 1), rational(1, convergent.MaxPath+2), rational(501*501+1, 501), rational(500*502+1, 502), rational(math.MaxInt, 2), rational(1, math.MaxInt), valueOfText("18446744073709551617"), valueOfText("1/18446744073709551617"), longSamples()[0], longSamples()[2]}
	for _, x := range long {
		if p, e := convergent.Path(x); p != "" || e != api.ErrLong {
			t.Errorf("Path(%s) = %q, %d", short(x), p, e)
		}
	}
	for _, x := range []api.Rational{rational(0, 1), rational(-1, 1), rational(-1, 5000), rational(-5000, 1)} {
		if p, e := convergent.Path(x); p != "" || e != api.ErrRange {
			t.Errorf("Path(%s) = %q, %d", short(x), p, e)
		}
	}
	for _, path := range []string{"X", "l", "r", "LRx", " L", "L ", "L\x00R", "É", "\xff", "LR\n", "L R", strings.Repeat("X", convergent.MaxPath)} {
		if x, e := convergent.At(path); x != (api.Rational{}) || e != api.ErrSyntax {
			t.Errorf("At(%q) = %s, %d", path, short(x), e)
		}
	}
	for _, path := range []string{strings.Repeat("L", convergent.MaxPath+1), strings.Repeat("x", convergent.MaxPath+1), strings.Repeat("É", convergent.MaxPath/2) + "L"} {
		if x, e := convergent.At(path); x != (api.Rational{}) || e != api.ErrLong {
			t.Errorf("At(%.20q..) = %s, %d", path, short(x), e)
		}
	}
}

// P4.7: what the tests above do not check already.
func TestConsequences(t *testing.T) {
	for _, x := range slices.Concat(smallSamples(), longSamples()) {
		l, e := convergent.Convergents(x)
		if e != api.OK {
			continue
		}
		values := allStandard(t, l)
		if last := len(l) - 1; l[last] != x {
			t.Errorf("the last convergent of %s is %s", short(x), short(l[last]))
		}
		for i, y := range values[:len(l)-1] {
			if sign := y.Cmp(standard(t, x)); sign != []int{-1, 1}[i%2] {
				t.Errorf("convergent %d of %s: %d", i, short(x), sign)
			}
		}
	}
}

// Wrong fractions are reported before all else, and then there are no results.
func TestWrongFractions(t *testing.T) {
	zero, one := api.Rational{}, rational(1, 1)
	for _, x := range wrongFractions() {
		for _, bound := range []int{5, 0, math.MinInt, math.MaxInt} {
			s, a := convergent.Semiconvergents(x, bound)
			n, b := convergent.Nearest(x, bound)
			l, c := convergent.Best(x, bound)
			below, above, d := convergent.Neighbours(x, bound)
			if s != nil || n != zero || l != nil || below != zero || above != zero || !slices.Equal([]api.Errno{a, b, c, d}, slices.Repeat([]api.Errno{api.ErrNumber}, 4)) {
				t.Errorf("%s, bound %d: %d, %d, %d, %d", short(x), bound, a, b, c, d)
			}
		}
		for _, pair := range [][2]api.Rational{{x, one}, {one, x}, {x, x}, {x, rational(-5, 1)}, {rational(5, 1), x}} {
			s, a := convergent.Simplest(pair[0], pair[1])
			m, b := convergent.Mediant(pair[0], pair[1])
			if s != zero || m != zero || a != api.ErrNumber || b != api.ErrNumber {
				t.Errorf("%s, %s: %d, %d", short(pair[0]), short(pair[1]), a, b)
			}
		}
		l, a := convergent.Terms(x)
		c, b := convergent.Convergents(x)
		p, d := convergent.Path(x)
		if l != nil || c != nil || p != "" || a != api.ErrNumber || b != api.ErrNumber || d != api.ErrNumber {
			t.Errorf("%s: %d, %d, %d", short(x), a, b, d)
		}
	}
}
