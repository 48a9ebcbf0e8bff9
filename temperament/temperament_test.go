package temperament_test

import (
	"fmt"
	"math"
	"slices"
	"strings"
	"testing"

	"schisma/api"
	"schisma/temperament"
)

// P18.1

func TestCheck(t *testing.T) {
	for _, x := range temperaments() {
		if e := temperament.Check(x); e != api.OK {
			t.Errorf("Check(%v) = %d", x, e)
		}
	}
	for _, c := range wrongTemperaments() {
		if e := temperament.Check(c.t); e != c.e {
			t.Errorf("Check(%v) = %d, not %d", c.t, e, c.e)
		}
	}
}

// A lattice that is not saturated, as commas or as the mapping, is an error.
func TestCheckOfLattices(t *testing.T) {
	forms, conflicts := 0, 0
	for _, r := range samples() {
		saturation, annihilator, are := r.bases()
		if !are {
			continue
		}
		basis, _ := right(formOf(bigRows(r.m), len(r.p)))
		of, by := api.OK, api.OK
		if !slices.EqualFunc(basis, saturation, slices.Equal[api.Row]) {
			of, by = api.ErrForm, api.ErrConflict
			forms++
		}
		if e := temperament.Check(api.Temperament{Primes: r.p, Commas: basis, Mapping: annihilator}); e != of {
			t.Errorf("Check of the commas %v over %v: %d, not %d", basis, r.p, e, of)
		}
		if e := temperament.Check(api.Temperament{Primes: r.p, Commas: annihilator, Mapping: basis}); e != by {
			t.Errorf("Check of the mapping %v over %v: %d, not %d", basis, r.p, e, by)
		}
		for _, s := range samples() {
			other, _, are := s.bases()
			if !are || len(s.p) != len(r.p) || slices.EqualFunc(other, saturation, slices.Equal[api.Row]) {
				continue
			}
			conflicts++
			if e := temperament.Check(api.Temperament{Primes: r.p, Commas: annihilator, Mapping: other}); e != api.ErrConflict {
				t.Errorf("Check of the commas %v with the mapping %v: %d", annihilator, other, e)
			}
		}
	}
	if forms < 20 || conflicts < 100 {
		t.Errorf("%d lattices are not saturated, %d mappings are wrong", forms, conflicts)
	}
}

func TestEqual(t *testing.T) {
	l := []api.Temperament{
		{}, {Primes: api.Primes{2, 3, 5}}, {Primes: api.Primes{2, 3}}, {Primes: api.Primes{2, 3, 5}, Commas: api.Matrix{{4, -4, 1}}}, {Primes: api.Primes{2, 3, 5}, Mapping: api.Matrix{{4, -4, 1}}},
		{Primes: api.Primes{2, 3, 5}, Commas: api.Matrix{{4, -4, 1}}, Mapping: api.Matrix{{1, 0, -4}, {0, 1, 4}}}, {Primes: api.Primes{2, 3, 7}, Commas: api.Matrix{{4, -4, 1}}, Mapping: api.Matrix{{1, 0, -4}, {0, 1, 4}}},
		{Primes: api.Primes{2, 3, 5}, Commas: api.Matrix{{4, -4, 1}}, Mapping: api.Matrix{{0, 1, 4}, {1, 0, -4}}}, {Primes: api.Primes{2, 3, 5}, Commas: api.Matrix{{4, -4}}, Mapping: api.Matrix{{1, 0, -4}, {0, 1, 4}}}, {Primes: api.Primes{2, 3, 5}, Commas: api.Matrix{{4, -4, 2}}, Mapping: api.Matrix{{1, 0, -4}, {0, 1, 4}}},
		{Primes: api.Primes{2, 3, 5}, Commas: api.Matrix{{4, -4, 1}}, Mapping: api.Matrix{{1, 0, -4}}}, {Primes: api.Primes{4, 0, -7}}, {Commas: api.Matrix{nil}}, {Mapping: api.Matrix{nil}}, {Commas: api.Matrix{{math.MinInt}}}, {Commas: make(api.Matrix, 100)}, {Primes: make(api.Primes, 100)},
	}
	for i, a := range l {
		for j, b := range l {
			if temperament.Equal(a, b) != (i == j) {
				t.Errorf("Equal(%v, %v) is not %t", a, b, i == j)
			}
		}
	}
	if !temperament.Equal(api.Temperament{}, api.Temperament{Primes: api.Primes{}, Commas: api.Matrix{}, Mapping: api.Matrix{}}) || !temperament.Equal(api.Temperament{Commas: api.Matrix{nil}}, api.Temperament{Commas: api.Matrix{{}}}) {
		t.Error("nil and empty lists are not equal")
	}
}

// P18.2

// expect checks a result against both bases, or the error of one that is too great.
func expect(t *testing.T, what string, r rows, got api.Temperament, e api.Errno, commas, mapping api.Matrix, are bool) {
	t.Helper()
	want, f := api.Temperament{Primes: r.p, Commas: commas, Mapping: mapping}, api.OK
	if !are {
		want, f = api.Temperament{}, api.ErrLimit
	}
	if e != f || !temperament.Equal(got, want) {
		t.Errorf("%s(%v, %v) = %v, %d, not %v, %d", what, r.p, r.m, got, e, want, f)
	}
}

func TestFrom(t *testing.T) {
	are, tooGreat := 0, 0
	for _, r := range samples() {
		saturation, annihilator, is := r.bases()
		got, e := temperament.FromCommas(r.p, r.m)
		expect(t, "FromCommas", r, got, e, saturation, annihilator, is)
		got, e = temperament.FromMapping(r.p, r.m)
		expect(t, "FromMapping", r, got, e, annihilator, saturation, is)
		if is {
			are++
		} else {
			tooGreat++
		}
	}
	if are < 100 || tooGreat < 10 {
		t.Errorf("%d are right, %d are too great", are, tooGreat)
	}
}

// The limits of the lattice of the rows, of its saturation, and of the annihilator.
func TestFromGreatRows(t *testing.T) {
	for i, e := range []api.Errno{api.ErrLimit, api.OK, api.OK, api.OK, api.ErrLimit, api.OK, api.ErrLimit, api.OK, api.OK, api.ErrLimit} {
		r := great()[i]
		x, f := temperament.FromCommas(r.p, r.m)
		y, g := temperament.FromMapping(r.p, r.m)
		if f != e || g != e || !temperament.Equal(x, api.Temperament{Primes: y.Primes, Commas: y.Mapping, Mapping: y.Commas}) || (e == api.OK) == (x.Primes == nil) {
			t.Errorf("%v: %v, %d, and %v, %d, not %d", r, x, f, y, g, e)
		}
	}
}

func TestErrorsOfFrom(t *testing.T) {
	three := api.Primes{2, 3, 5}
	for _, c := range []struct {
		p api.Primes
		m api.Matrix
		e api.Errno
	}{
		{nil, nil, api.ErrEmpty}, {api.Primes{2, 3, 5, 7, 11, 13, 17}, api.Matrix{{1}}, api.ErrLimit}, {api.Primes{2, 9}, make(api.Matrix, 13), api.ErrPrime}, {api.Primes{3, 2}, api.Matrix{{1, most + 1}}, api.ErrOrder}, {api.Primes{2, 2}, nil, api.ErrOrder},
		{three, make(api.Matrix, api.MaxRows+1), api.ErrLimit}, {three, slices.Repeat(api.Matrix{{1, 0, 0}}, api.MaxRows+1), api.ErrLimit}, {three, api.Matrix{{1, 0}}, api.ErrSize}, {three, api.Matrix{{1, 0, 0}, nil}, api.ErrSize}, {three, api.Matrix{{1, 0, 0, 0}}, api.ErrSize},
		{three, api.Matrix{{0, 0, most + 1}, {1}}, api.ErrLimit}, {three, api.Matrix{{1}, {0, 0, most + 1}}, api.ErrSize}, {three, api.Matrix{{1, math.MinInt}}, api.ErrLimit}, {three, api.Matrix{make(api.Row, api.MaxRow+1)}, api.ErrLimit}, {three, api.Matrix{make(api.Row, api.MaxRow)}, api.ErrSize},
	} {
		x, e := temperament.FromCommas(c.p, c.m)
		y, f := temperament.FromMapping(c.p, c.m)
		if e != c.e || f != c.e || !temperament.Equal(x, api.Temperament{}) || !temperament.Equal(y, api.Temperament{}) {
			t.Errorf("of %v, %v: %v, %d, and %v, %d, not %d", c.p, c.m, x, e, y, f, c.e)
		}
		if c.m == nil {
			x, e := temperament.Just(c.p)
			y, f := temperament.Trivial(c.p)
			if e != c.e || f != c.e || !temperament.Equal(x, api.Temperament{}) || !temperament.Equal(y, api.Temperament{}) {
				t.Errorf("Just and Trivial of %v: %v, %d, and %v, %d, not %d", c.p, x, e, y, f, c.e)
			}
		}
	}
	for _, c := range wrongTemperaments() {
		_, isPrimes := temperament.Just(c.t.Primes)
		if _, e := temperament.Trivial(c.t.Primes); e != isPrimes || isPrimes != api.OK && isPrimes != c.e {
			t.Errorf("Just(%v): %d, and Trivial: %d", c.t.Primes, isPrimes, e)
		}
	}
}

func TestJust(t *testing.T) {
	for _, p := range lists() {
		identity := make(api.Matrix, len(p))
		for i := range p {
			identity[i] = make(api.Row, len(p))
			identity[i][i] = 1
		}
		if x, e := temperament.Just(p); e != api.OK || !temperament.Equal(x, api.Temperament{Primes: p, Mapping: identity}) {
			t.Errorf("Just(%v) = %v, %d", p, x, e)
		}
		if x, e := temperament.Trivial(p); e != api.OK || !temperament.Equal(x, api.Temperament{Primes: p, Commas: identity}) {
			t.Errorf("Trivial(%v) = %v, %d", p, x, e)
		}
	}
}

// P18.3

func TestRank(t *testing.T) {
	for _, x := range temperaments() {
		rank, e := temperament.Rank(x)
		corank, f := temperament.Corank(x)
		if e != api.OK || f != api.OK || rank != len(x.Mapping) || corank != len(x.Commas) || rank+corank != len(x.Primes) {
			t.Errorf("Rank(%v) = %d, %d, and Corank = %d, %d", x, rank, e, corank, f)
		}
	}
}

// P18.5

func TestText(t *testing.T) {
	for _, x := range temperaments() {
		want := strings.Trim(strings.ReplaceAll(fmt.Sprint(x.Primes), " ", "."), "[]") + ", commas " + written(x.Commas, "[", ">") + ", mapping " + written(x.Mapping, "<", "]")
		if s, e := temperament.Text(x); e != api.OK || s != want {
			t.Errorf("Text(%v) = %q, %d, not %q", x, s, e, want)
		}
	}
}

// written returns the texts of rows between brackets.
func written(m api.Matrix, open, close string) string {
	if len(m) == 0 {
		return "none"
	}
	var words []string
	for _, r := range m {
		words = append(words, open+strings.Trim(fmt.Sprint(r), "[]")+close)
	}
	return strings.Join(words, " ")
}

// The examples of the document.
func TestExamples(t *testing.T) {
	p := api.Primes{2, 3, 5}
	meantone := api.Temperament{Primes: p, Commas: api.Matrix{{4, -4, 1}}, Mapping: api.Matrix{{1, 0, -4}, {0, 1, 4}}}
	for _, comma := range []api.Row{{-4, 4, -1}, {-8, 8, -2}, {4, -4, 1}} {
		if x, e := temperament.FromCommas(p, api.Matrix{comma}); e != api.OK || !temperament.Equal(x, meantone) {
			t.Errorf("FromCommas of %v = %v, %d", comma, x, e)
		}
	}
	if x, e := temperament.FromMapping(p, api.Matrix{{12, 19, 28}, {19, 30, 44}}); e != api.OK || !temperament.Equal(x, meantone) {
		t.Errorf("FromMapping = %v, %d", x, e)
	}
	for _, c := range []struct{ x, want api.Row }{{api.Row{-1, 1, 0}, api.Row{-1, 1}}, {api.Row{-2, 0, 1}, api.Row{-6, 4}}} {
		if y, e := temperament.Temper(meantone, c.x); e != api.OK || !slices.Equal(y, c.want) {
			t.Errorf("Temper of %v = %v, %d", c.x, y, e)
		}
	}
	just, _ := temperament.Just(api.Primes{2, 3})
	trivial, _ := temperament.Trivial(api.Primes{2, 3})
	for _, c := range []struct {
		t api.Temperament
		s string
	}{{meantone, "2.3.5, commas [4 -4 1>, mapping <1 0 -4] <0 1 4]"}, {just, "2.3, commas none, mapping <1 0] <0 1]"}, {trivial, "2.3, commas [1 0> [0 1>, mapping none"}} {
		if s, e := temperament.Text(c.t); e != api.OK || s != c.s {
			t.Errorf("Text = %q, %d, not %q", s, e, c.s)
		}
	}
}
