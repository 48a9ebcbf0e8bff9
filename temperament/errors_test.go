package temperament_test

import (
	"fmt"
	"math"
	"math/rand/v2"
	"slices"
	"testing"

	"schisma/api"
	"schisma/temperament"
)

// answer is what a function returned.
type answer struct {
	e      api.Errno
	isZero bool // whether all other results are zero values
}

// withInterval returns what each function of a temperament and an interval answers; y is the second interval of Identified.
func withInterval(u api.Temperament, x, y api.Row) map[string]answer {
	tempered, a := temperament.Temper(u, x)
	out, b := temperament.TempersOut(u, x)
	identified, c := temperament.Identified(u, x, y)
	represented, d := temperament.Represent(u, x)
	return map[string]answer{"Temper": {a, tempered == nil}, "TempersOut": {b, !out}, "Identified": {c, !identified}, "Represent": {d, represented == nil}}
}

// withTemperament returns what each function of a temperament alone answers.
func withTemperament(u api.Temperament) map[string]answer {
	rank, a := temperament.Rank(u)
	corank, b := temperament.Corank(u)
	text, c := temperament.Text(u)
	return map[string]answer{"Rank": {a, rank == 0}, "Corank": {b, corank == 0}, "Text": {c, text == ""}}
}

// expectError checks that all functions answer an error, and nothing else.
func expectError(t *testing.T, answers map[string]answer, want api.Errno) {
	t.Helper()
	for name, got := range answers {
		if got.e != want || !got.isZero {
			t.Errorf("%s: %d (other results are zero: %t), not %d", name, got.e, got.isZero, want)
		}
	}
}

// P1: errors come in their order, and nothing else comes with them.
func TestErrors(t *testing.T) {
	wrongRows := []struct {
		x api.Row
		e api.Errno
	}{
		{nil, api.ErrSize}, {api.Row{1, 0}, api.ErrSize}, {api.Row{1, 0, 0, 0}, api.ErrSize}, {make(api.Row, api.MaxRow), api.ErrSize}, {make(api.Row, api.MaxRow+1), api.ErrLimit},
		{api.Row{most + 1, 0, 0}, api.ErrLimit}, {api.Row{0, 0, -most - 1}, api.ErrLimit}, {api.Row{0, math.MinInt}, api.ErrLimit}, {api.Row{math.MaxInt, math.MaxInt, math.MaxInt}, api.ErrLimit},
	}
	right := api.Row{-4, 4, -1}
	for _, c := range wrongTemperaments() {
		expectError(t, withTemperament(c.t), c.e)
		expectError(t, withInterval(c.t, right, right), c.e)
		for _, x := range wrongRows {
			expectError(t, withInterval(c.t, x.x, x.x), c.e)
		}
	}
	p := api.Primes{2, 3, 5}
	just, _ := temperament.Just(p)
	trivial, _ := temperament.Trivial(p)
	meantone, _ := temperament.FromCommas(p, api.Matrix{right})
	for _, u := range []api.Temperament{just, trivial, meantone} {
		for _, x := range wrongRows {
			expectError(t, withInterval(u, x.x, right), x.e)
			is, e := temperament.Identified(u, right, x.x)
			expectError(t, map[string]answer{"Identified": {e, !is}}, x.e)
			for _, y := range wrongRows {
				expectError(t, withInterval(u, x.x, y.x), x.e)
			}
		}
	}
}

// Arguments are as before, and results share no memory with them or with each other.
func TestMemory(t *testing.T) {
	p, commas, vals, x := api.Primes{2, 3, 5}, api.Matrix{{4, -4, 1}}, api.Matrix{{1, 0, -4}, {0, 1, 4}}, api.Row{-1, 1, 0}
	meantone := api.Temperament{Primes: p, Commas: commas, Mapping: vals}
	before := fmt.Sprint(meantone, x)
	var lists [][]int
	keep := func(u api.Temperament, e api.Errno) {
		if e != api.OK {
			t.Fatalf("error %d", e)
		}
		lists = append(lists, u.Primes)
		for _, r := range slices.Concat(u.Commas, u.Mapping) {
			lists = append(lists, r)
		}
	}
	keep(temperament.FromCommas(p, commas))
	keep(temperament.FromMapping(p, vals))
	keep(temperament.Just(p))
	keep(temperament.Trivial(p))
	tempered, _ := temperament.Temper(meantone, x)
	represented, _ := temperament.Represent(meantone, x)
	just, _ := temperament.Just(p)
	same, _ := temperament.Represent(just, x)
	lists = append(lists, tempered, represented, same)
	withTemperament(meantone)
	withInterval(meantone, x, x)
	for i, l := range lists {
		for j := range l {
			l[j] = i
		}
		// What is behind the end of a list may not be another one, either.
		_ = append(l, -1, -2)
	}
	for i, l := range lists {
		if !slices.Equal(l, slices.Repeat([]int{i}, len(l))) {
			t.Errorf("result %d is %v", i, l)
		}
	}
	if after := fmt.Sprint(meantone, x); after != before {
		t.Errorf("the arguments are %s, not %s", after, before)
	}
}

// Every function ends, and answers an error alone or a right result, for any arguments.
func TestAnyArguments(t *testing.T) {
	r := rand.New(rand.NewPCG(18, 2))
	anyInt := func() int {
		return []int{0, 1, -1, 2, 3, 12, most, -most, most + 1, math.MaxInt, math.MinInt}[r.IntN(11)]
	}
	anyMatrix := func() api.Matrix {
		m := make(api.Matrix, r.IntN(4))
		for i := range m {
			m[i] = make(api.Row, 2+r.IntN(9)/8)
			for j := range m[i] {
				if r.IntN(2) == 0 {
					m[i][j] = anyInt()
				}
			}
		}
		return m
	}
	for range 5000 {
		u := api.Temperament{Primes: api.Primes{2, 2 + r.IntN(4)}, Commas: anyMatrix(), Mapping: anyMatrix()}
		made, e := temperament.FromCommas(u.Primes, u.Commas)
		if e != api.OK && !temperament.Equal(made, api.Temperament{}) || e == api.OK && temperament.Check(made) != api.OK {
			t.Errorf("FromCommas(%v, %v) = %v, %d", u.Primes, u.Commas, made, e)
		}
		for _, v := range []api.Temperament{u, made} {
			wanted := temperament.Check(v)
			for name, got := range withTemperament(v) {
				if got.e != wanted || wanted != api.OK && !got.isZero {
					t.Errorf("%s of %v: %d, not %d", name, v, got.e, wanted)
				}
			}
			x, y := slices.Concat(anyMatrix()...), slices.Concat(anyMatrix()...)
			for name, got := range withInterval(v, x, y) {
				if wanted != api.OK && got.e != wanted || got.e != api.OK && !got.isZero {
					t.Errorf("%s of %v, %v and %v: %d", name, v, x, y, got.e)
				}
			}
		}
	}
}
