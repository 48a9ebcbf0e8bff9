package temperament_test

import (
	"math/big"
	"math/rand/v2"
	"slices"
	"testing"

	"schisma/api"
	"schisma/row"
	"schisma/temperament"
)

// intervals returns rows with as many elements as a temperament has primes, among them some that are tempered out.
func intervals(t api.Temperament) []api.Row {
	n := len(t.Primes)
	r := rand.New(rand.NewPCG(18, uint64(n)))
	l := slices.Concat(random(r, 4, n, 3), random(r, 2, n, api.MaxExponent), random(r, 2, n, most), t.Commas, t.Mapping)
	l = append(l, make(api.Row, n), slices.Repeat(api.Row{most}, n), slices.Repeat(api.Row{-most}, n))
	for _, c := range t.Commas {
		if sum, e := row.Add(c, l[0]); e == api.OK {
			l = append(l, sum)
		}
		if sum, e := row.Combine([]api.Row{c, t.Commas[0]}, api.Row{3, -2}); e == api.OK {
			l = append(l, sum)
		}
	}
	return l
}

// tempered returns the dot products of an interval and the rows of the mapping.
func tempered(t api.Temperament, x api.Row) []*big.Int {
	l := []*big.Int{}
	for _, r := range t.Mapping {
		l = append(l, dot(bigRow(r), bigRow(x)))
	}
	return l
}

// represent returns the row of the class of an interval that has, in the column of each pivot of the commas, an element from 0 to the pivot less 1.
func represent(t api.Temperament, x api.Row) []*big.Int {
	rest := bigRow(x)
	for _, r := range t.Commas {
		divide(rest, bigRow(r), slices.IndexFunc(r, func(n int) bool { return n != 0 }))
	}
	return rest
}

// P18.4

// expectRow checks a row against one in the standard library's integers, which can be too great.
func expectRow(t *testing.T, what string, x, got api.Row, e api.Errno, want []*big.Int) (tooGreat bool) {
	t.Helper()
	m, is := right([][]*big.Int{want})
	if is && (e != api.OK || !slices.Equal(got, m[0])) || !is && (e != api.ErrLimit || got != nil) {
		t.Errorf("%s(%v) = %v, %d, not %v", what, x, got, e, want)
	}
	return !is
}

func TestTemper(t *testing.T) {
	tooGreat, out := 0, 0
	for _, u := range temperaments() {
		for _, x := range intervals(u) {
			want := tempered(u, x)
			got, e := temperament.Temper(u, x)
			if expectRow(t, "Temper", x, got, e, want) {
				tooGreat++
			}
			is, e := temperament.TempersOut(u, x)
			if e != api.OK || is != isZero(want) {
				t.Errorf("TempersOut(%v, %v) = %t, %d", u, x, is, e)
			}
			if is {
				out++
			}
		}
	}
	if tooGreat == 0 || out == 0 {
		t.Errorf("%d tempered intervals are too great, %d are zero", tooGreat, out)
	}
}

func TestRepresent(t *testing.T) {
	tooGreat, different := 0, 0
	for _, u := range temperaments() {
		for _, x := range intervals(u) {
			got, e := temperament.Represent(u, x)
			if expectRow(t, "Represent", x, got, e, represent(u, x)) {
				tooGreat++
			} else if !slices.Equal(got, x) {
				different++
			}
		}
	}
	if tooGreat == 0 || different == 0 {
		t.Errorf("%d representatives are too great, %d are different", tooGreat, different)
	}
}

func TestIdentified(t *testing.T) {
	identified := 0
	for _, u := range temperaments() {
		l := intervals(u)
		for _, x := range l {
			for _, y := range l {
				want := slices.EqualFunc(tempered(u, x), tempered(u, y), func(a, b *big.Int) bool { return a.Cmp(b) == 0 })
				if is, e := temperament.Identified(u, x, y); e != api.OK || is != want {
					t.Errorf("Identified(%v, %v, %v) = %t, %d", u, x, y, is, e)
				}
				if want && !slices.Equal(x, y) {
					identified++
				}
			}
		}
	}
	if identified == 0 {
		t.Error("no two intervals are identified")
	}
}

// Intervals whose tempered interval, or whose difference, is too great for a row are identified as others are.
func TestGreatIntervals(t *testing.T) {
	p := api.Primes{2, 3}
	twelve, _ := temperament.FromMapping(p, api.Matrix{{1, 1}})
	if twelve.Commas == nil {
		t.Fatal("no commas")
	}
	for _, c := range []struct {
		x, y api.Row
		is   bool
	}{
		{api.Row{most, -most}, api.Row{-most, most}, true}, {api.Row{most, most}, api.Row{most, most}, true}, {api.Row{most, most}, api.Row{-most, -most}, false}, {api.Row{most, most - 1}, api.Row{most - 1, most}, true}, {api.Row{most, -most + 1}, api.Row{-most, most}, false},
	} {
		if is, e := temperament.Identified(twelve, c.x, c.y); e != api.OK || is != c.is {
			t.Errorf("Identified(%v, %v) = %t, %d", c.x, c.y, is, e)
		}
	}
	for _, c := range []struct {
		x api.Row
		e api.Errno
	}{{api.Row{most, 0}, api.OK}, {api.Row{most, 1}, api.ErrLimit}, {api.Row{most, -1}, api.OK}, {api.Row{-most, -1}, api.ErrLimit}, {api.Row{most, -most}, api.OK}} {
		y, e := temperament.Temper(twelve, c.x)
		z, f := temperament.Represent(twelve, c.x)
		if is, g := temperament.TempersOut(twelve, c.x); g != api.OK || is != (c.x[0] == -c.x[1]) {
			t.Errorf("TempersOut(%v) = %t, %d", c.x, is, g)
		}
		if e != c.e || f != c.e || (e == api.OK) != (y != nil && z != nil) {
			t.Errorf("Temper(%v) = %v, %d, and Represent = %v, %d, not %d", c.x, y, e, z, f, c.e)
		}
	}
}

// P18.6

// The commas, and the mapping, of a temperament give it back, and tempering is additive.
func TestTemperaments(t *testing.T) {
	for _, u := range temperaments() {
		if x, e := temperament.FromCommas(u.Primes, u.Commas); e != api.OK || !temperament.Equal(x, u) {
			t.Errorf("FromCommas of the commas of %v = %v, %d", u, x, e)
		}
		if x, e := temperament.FromMapping(u.Primes, u.Mapping); e != api.OK || !temperament.Equal(x, u) {
			t.Errorf("FromMapping of the mapping of %v = %v, %d", u, x, e)
		}
		for _, c := range u.Commas {
			for _, r := range u.Mapping {
				if n, e := row.Dot(c, r); e != api.OK || n != 0 {
					t.Errorf("%v: %v and %v have the dot product %d, %d", u, c, r, n, e)
				}
			}
			if is, e := temperament.TempersOut(u, c); e != api.OK || !is {
				t.Errorf("TempersOut(%v, %v) = %t, %d", u, c, is, e)
			}
		}
		l := intervals(u)
		for _, x := range l {
			for _, y := range l[:5] {
				sum, e := row.Add(x, y)
				a, f := temperament.Temper(u, x)
				b, g := temperament.Temper(u, y)
				both, h := temperament.Temper(u, sum)
				if e != api.OK || f != api.OK || g != api.OK || h != api.OK {
					continue
				}
				if want, e := row.Add(a, b); e != api.OK || !slices.Equal(both, want) {
					t.Errorf("%v: the tempered interval of the sum of %v and %v is %v", u, x, y, both)
				}
			}
		}
	}
}

// Two intervals are identified exactly if they have the same representative, and an interval is identified with its own.
func TestRepresentatives(t *testing.T) {
	for _, u := range temperaments() {
		l := intervals(u)
		for _, x := range l {
			a, e := temperament.Represent(u, x)
			if e != api.OK {
				continue
			}
			if is, e := temperament.Identified(u, x, a); e != api.OK || !is {
				t.Errorf("%v: %v and its representative %v are identified: %t, %d", u, x, a, is, e)
			}
			for _, y := range l {
				b, e := temperament.Represent(u, y)
				if is, f := temperament.Identified(u, x, y); e == api.OK && (f != api.OK || is != slices.Equal(a, b)) {
					t.Errorf("%v: %v and %v are identified: %t, %d, with the representatives %v and %v", u, x, y, is, f, a, b)
				}
			}
		}
	}
}

// A temperament of several rows tempers out each of them, and one of several vals exactly what all of them temper out.
func TestRowsOfTemperaments(t *testing.T) {
	for _, r := range samples() {
		x, e := temperament.FromCommas(r.p, r.m)
		y, f := temperament.FromMapping(r.p, r.m)
		if e != api.OK || f != api.OK {
			continue
		}
		for _, c := range r.m {
			if is, e := temperament.TempersOut(x, c); e != api.OK || !is {
				t.Errorf("FromCommas(%v, %v) tempers out %v: %t, %d", r.p, r.m, c, is, e)
			}
		}
		for _, z := range intervals(y) {
			all := !slices.ContainsFunc(r.m, func(v api.Row) bool { return dot(bigRow(v), bigRow(z)).Sign() != 0 })
			if is, e := temperament.TempersOut(y, z); e != api.OK || is != all {
				t.Errorf("FromMapping(%v, %v) tempers out %v: %t, %d", r.p, r.m, z, is, e)
			}
		}
	}
}
