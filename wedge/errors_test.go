package wedge_test

import (
	"math"
	"math/rand/v2"
	"slices"
	"testing"

	"schisma/api"
	"schisma/wedge"
)

// answer is what a function returned.
type answer struct {
	e      api.Errno
	isZero bool // whether all other results are zero values
}

// withOne returns what each function of one product answers.
func withOne(x wedge.Multi, y api.Row) map[string]answer {
	content, e := wedge.Content(x)
	is, f := wedge.Decomposable(x)
	l, g := wedge.Lattice(x)
	out := map[string]answer{"Content": {e, content == ""}, "Decomposable": {f, !is}, "Lattice": {g, l == nil}}
	ofProduct := func(name string, got wedge.Multi, e api.Errno) {
		out[name] = answer{e, wedge.Equal(got, none)}
	}
	canonical, e := wedge.Canonical(x)
	ofProduct("Canonical", canonical, e)
	dual, e := wedge.Dual(x)
	ofProduct("Dual", dual, e)
	interior, e := wedge.Interior(x, y)
	ofProduct("Interior", interior, e)
	return out
}

// P1: the errors that all functions have in common come first, and nothing else comes with them.
func TestErrors(t *testing.T) {
	expect := func(what string, x wedge.Multi, got answer, want api.Errno) {
		t.Helper()
		if got.e != want || !got.isZero {
			t.Errorf("%s of %v: %d (other results are zero: %t), not %d", what, x, got.e, got.isZero, want)
		}
	}
	right := multi(2, 1, "1", "2")
	for _, c := range wrongProducts() {
		for _, y := range []api.Row{nil, {most + 1}, make(api.Row, 65)} {
			for name, got := range withOne(c.x, y) {
				expect(name, c.x, got, c.e)
			}
		}
		for _, other := range []wedge.Multi{right, multi(4, 4, "1"), c.x} {
			p, e := wedge.Product(c.x, other)
			expect("Product", c.x, answer{e, wedge.Equal(p, none)}, c.e)
			p, e = wedge.Product(multi(3, 3, "1"), c.x)
			expect("Product", c.x, answer{e, wedge.Equal(p, none)}, c.e)
		}
		for _, d := range wrongProducts() {
			p, e := wedge.Product(c.x, d.x)
			expect("Product", c.x, answer{e, wedge.Equal(p, none)}, c.e)
		}
	}
	for i, c := range []struct {
		a, b wedge.Multi
		e    api.Errno
	}{
		{right, multi(3, 1, "1", "2", "3"), api.ErrSize},
		{right, multi(3, 3, "1"), api.ErrSize},
		{multi(0, 0, "1"), multi(1, 1, "1"), api.ErrSize},
		{right, multi(2, 2, "1"), api.ErrRange},
		{multi(1, 1, "0"), multi(1, 1, "0"), api.ErrRange},
		{multi(2, 2, power("9", 399)), multi(2, 1, power("9", 399), "0"), api.ErrRange},
	} {
		if p, e := wedge.Product(c.a, c.b); e != c.e || !wedge.Equal(p, none) {
			t.Errorf("%d: Product = %v, %d, not %d", i, p, e, c.e)
		}
	}
}

// Arguments are as before, and no result shares memory with them, or with another row of itself.
func TestMemory(t *testing.T) {
	for _, x := range products() {
		before := slices.Clone(x.Coordinates)
		m := api.Matrix{make(api.Row, x.Dimension)}
		canonical, _ := wedge.Canonical(x)
		dual, _ := wedge.Dual(x)
		product, _ := wedge.Product(x, multi(x.Dimension, 0, "1"))
		interior, _ := wedge.Interior(x, m[0])
		of, _ := wedge.Of(m, x.Dimension)
		for _, y := range []wedge.Multi{canonical, dual, product, interior, of} {
			for i := range y.Coordinates {
				y.Coordinates[i] = "77"
			}
		}
		l, _ := wedge.Lattice(x)
		for i, r := range l {
			rest := l[i+1:]
			copied := make(api.Matrix, len(rest))
			for j := range rest {
				copied[j] = slices.Clone(rest[j])
			}
			for j := range r {
				r[j] = 77
			}
			// What is behind the end of a row may not be another one, either.
			_ = append(r, 78, 79)
			if !same(rest, copied) {
				t.Errorf("%v: rows of a result share memory", x)
			}
		}
		if !slices.Equal(x.Coordinates, before) || slices.ContainsFunc(m[0], func(n int) bool { return n != 0 }) {
			t.Errorf("%v became %v", before, x.Coordinates)
		}
	}
}

// Every function ends, and answers an error or a right result, for any arguments.
func TestAnyArguments(t *testing.T) {
	r := rand.New(rand.NewPCG(10, 8))
	numbers := []api.Int{"0", "1", "-1", "2", "1000000000000", power("9", 199), power("-9", 399), power("9", 400), "", "-0", "x"}
	anyMulti := func() wedge.Multi {
		x := wedge.Multi{Dimension: r.IntN(6), Grade: r.IntN(5)}
		count := len(choose(0, x.Dimension, x.Grade))
		if r.IntN(20) == 0 {
			x.Dimension = []int{-1, 13, math.MinInt, math.MaxInt}[r.IntN(4)]
		}
		kinds := []int{4, 7, len(numbers)}[r.IntN(3)]
		for range count {
			x.Coordinates = append(x.Coordinates, numbers[r.IntN(kinds)])
		}
		return x
	}
	for range 4000 {
		a, b := anyMulti(), anyMulti()
		y := random(r, 1, max(0, min(12, a.Dimension)), 9)[0]
		wanted := wedge.Check(a)
		for name, got := range withOne(a, y) {
			if wanted != api.OK && got.e != wanted || got.e != api.OK && !got.isZero {
				t.Errorf("%s of %v: %d", name, a, got.e)
			}
		}
		for _, c := range []wedge.Multi{a, b} {
			if p, e := wedge.Product(c, b); e == api.OK && wedge.Check(p) != api.OK || e != api.OK && !wedge.Equal(p, none) {
				t.Errorf("Product(%v, %v) = %v, %d", c, b, p, e)
			}
		}
	}
}
