package lattice_test

import (
	"math"
	"math/rand/v2"
	"slices"
	"strconv"
	"testing"

	"schisma/api"
	"schisma/lattice"
)

// answer is what a function returned.
type answer struct {
	e      api.Errno
	isZero bool // whether all other results are zero values
}

// withOne returns what each function of one lattice answers; its row has as many elements as the lattice has columns, if these are right.
func withOne(l lattice.Lattice) map[string]answer {
	var x api.Row
	if 0 <= l.Columns && l.Columns <= api.MaxColumns {
		x = make(api.Row, l.Columns)
	}
	out := withRow(l, x)
	ofLattice := func(name string, got lattice.Lattice, e api.Errno) {
		out[name] = answer{e, lattice.Equal(got, none)}
	}
	saturation, e := lattice.Saturate(l)
	ofLattice("Saturate", saturation, e)
	annihilator, e := lattice.Annihilator(l)
	ofLattice("Annihilator", annihilator, e)
	n, e := lattice.Index(l)
	out["Index"] = answer{e, n == 0}
	for _, most := range []int{0, -1, math.MaxInt} {
		box, e := lattice.Box(l, most)
		out["Box of "+strconv.Itoa(most)] = answer{e, box == nil}
	}
	return out
}

// withRow does the same with the functions of a lattice and a row.
func withRow(l lattice.Lattice, x api.Row) map[string]answer {
	is, e := lattice.Contains(l, x)
	c, f := lattice.Coordinates(l, x)
	rest, g := lattice.Represent(l, x)
	return map[string]answer{"Contains": {e, !is}, "Coordinates": {f, c == nil}, "Represent": {g, rest == nil}}
}

// withTwo does the same with the functions of two lattices.
func withTwo(a, b lattice.Lattice) map[string]answer {
	is, e := lattice.Within(a, b)
	sum, f := lattice.Sum(a, b)
	both, g := lattice.Intersect(a, b)
	return map[string]answer{"Within": {e, !is}, "Sum": {f, lattice.Equal(sum, none)}, "Intersect": {g, lattice.Equal(both, none)}}
}

// expectError checks that all functions answer an error, and nothing else.
func expectError(t *testing.T, answers map[string]answer, want api.Errno) {
	t.Helper()
	for name, got := range answers {
		if got.e != want || !got.isZero {
			t.Errorf("%s: %d (other results are zero: %t), not %d", name, got.e, got.isZero, want)
		}
	}
}

// P1: the errors that all functions have in common, in their order.

func TestErrors(t *testing.T) {
	right := lattice.Lattice{Columns: 2, Basis: api.Matrix{{1, 1}}}
	for _, c := range wrongLattices() {
		expectError(t, withOne(c.l), c.e)
		expectError(t, withRow(c.l, filled(1, 65, most+1)[0]), c.e)
		expectError(t, withTwo(c.l, right), c.e)
		expectError(t, withTwo(right, c.l), c.e)
		for _, d := range wrongLattices() {
			expectError(t, withTwo(c.l, d.l), c.e)
		}
	}
	for _, b := range []lattice.Lattice{{0, nil}, {1, nil}, {3, nil}, {3, api.Matrix{{1, 1, 0}}}, {12, even(12, most)}} {
		expectError(t, withTwo(right, b), api.ErrSize)
		expectError(t, withTwo(b, right), api.ErrSize)
	}
	for _, l := range []lattice.Lattice{right, {2, nil}, {2, even(2, 1)}} {
		for _, x := range []api.Row{{most + 1, 0}, {0, -most - 1}, {math.MinInt, 0}, {0, math.MaxInt}, {0, 0, most + 1}, {math.MinInt}, make(api.Row, 65)} {
			expectError(t, withRow(l, x), api.ErrLimit)
		}
		for _, x := range []api.Row{nil, {}, {0}, {0, 0, 0}, {1, 1, 0}, make(api.Row, 13), make(api.Row, 64)} {
			expectError(t, withRow(l, x), api.ErrSize)
		}
	}
	expectError(t, withRow(lattice.Lattice{}, api.Row{0}), api.ErrSize)
}

// Arguments are as before, and no result shares memory with them, or with another row of itself.
func TestMemory(t *testing.T) {
	for _, l := range lattices() {
		if l.Columns > 5 {
			continue
		}
		before := lattice.Lattice{Columns: l.Columns, Basis: deep(l.Basis)}
		x := make(api.Row, l.Columns)
		for _, r := range l.Basis {
			copy(x, r)
		}
		row := slices.Clone(x)
		var results []api.Matrix
		keep := func(got lattice.Lattice, _ api.Errno) {
			results = append(results, got.Basis)
		}
		keep(lattice.Of(l.Columns, l.Basis))
		keep(lattice.Sum(l, l))
		keep(lattice.Intersect(l, l))
		keep(lattice.Saturate(l))
		keep(lattice.Annihilator(l))
		c, _ := lattice.Coordinates(l, x)
		rest, _ := lattice.Represent(l, x)
		box, _ := lattice.Box(l, 1)
		results = append(results, api.Matrix{c}, api.Matrix{rest}, box)
		for _, m := range results {
			copied := deep(m)
			for i, r := range m {
				for j := range r {
					r[j] = 77
				}
				// What is behind the end of a row may not be another one, either.
				_ = append(r, 78, 79)
				for k, other := range m[i+1:] {
					if !slices.Equal(other, copied[i+1+k]) {
						t.Errorf("%v: rows of a result share memory", l)
					}
				}
			}
		}
		if !lattice.Equal(l, before) || !slices.Equal(x, row) {
			t.Errorf("%v became %v", before, l)
		}
	}
}

// Every function ends, and answers an error or a right result, for any arguments.
func TestAnyArguments(t *testing.T) {
	r := rand.New(rand.NewPCG(9, 10))
	anyInt := func() int {
		return []int{0, 1, -1, 2, 3, 12, 13, most, -most, most + 1, math.MaxInt, math.MinInt, 1 << 32}[r.IntN(13)]
	}
	anyMatrix := func() api.Matrix {
		m := make(api.Matrix, r.IntN(4))
		for i := range m {
			m[i] = make(api.Row, 2+r.IntN(9)/8)
			for j := range m[i] {
				if r.IntN(2) == 0 {
					m[i][j] = anyInt()
				}
			}
		}
		return m
	}
	for range 5000 {
		a, b := lattice.Lattice{Columns: 2 + r.IntN(9)/8, Basis: anyMatrix()}, lattice.Lattice{Columns: anyInt(), Basis: anyMatrix()}
		_, _ = lattice.Of(b.Columns, b.Basis)
		if got, e := lattice.Of(a.Columns, a.Basis); e == api.OK && lattice.Check(got) != api.OK {
			t.Errorf("Of(%d, %v) = %v", a.Columns, a.Basis, got)
		}
		for _, l := range []lattice.Lattice{a, b} {
			wanted := lattice.Check(l)
			for name, got := range withOne(l) {
				if wanted != api.OK && got.e != wanted || got.e != api.OK && !got.isZero {
					t.Errorf("%s of %v: %d", name, l, got.e)
				}
			}
		}
		for name, got := range withTwo(a, b) {
			if got.e != api.OK && !got.isZero {
				t.Errorf("%s of %v and %v: %d", name, a, b, got.e)
			}
		}
	}
}
