package lattice_test

import (
	"math"
	"math/big"
	"math/rand/v2"
	"slices"
	"testing"

	"schisma/api"
	"schisma/lattice"
)

// P9.1

func TestOf(t *testing.T) {
	r := rand.New(rand.NewPCG(9, 3))
	tooGreat := 0
	check := func(columns int, rows api.Matrix) {
		t.Helper()
		got, e := lattice.Of(columns, rows)
		if expectLattice(t, "Of", got, e, columns, formOf(bigRows(rows), columns)) {
			tooGreat++
		}
	}
	for _, shape := range [][2]int{{0, 0}, {0, 3}, {3, 0}, {12, 0}, {0, 12}, {1, 1}, {1, 4}, {4, 1}, {2, 2}, {3, 2}, {2, 3}, {3, 3}, {5, 4}, {12, 1}, {12, 2}, {1, 12}, {6, 12}} {
		for _, bound := range []int{0, 1, 3, 40, 5000, most} {
			check(shape[1], random(r, shape[0], shape[1], bound))
		}
	}
	check(12, random(r, 12, 12, 1))
	check(12, random(r, 12, 12, most))
	check(12, filled(12, 12, -most))
	check(12, even(12, -most))
	if tooGreat < 5 {
		t.Errorf("only %d lattices are too great", tooGreat)
	}
	for i, c := range []struct {
		columns     int
		rows, basis api.Matrix
	}{
		{3, api.Matrix{{4, 2, 0}, {2, 4, 0}}, api.Matrix{{2, 4, 0}, {0, 6, 0}}},
		{3, api.Matrix{{0, 0, 0}, {-12, -19, -28}, {12, 19, 28}}, api.Matrix{{12, 19, 28}}},
		{2, api.Matrix{{2, 4}, {3, 5}}, api.Matrix{{1, 1}, {0, 2}}},
		{4, nil, nil},
		{0, make(api.Matrix, 12), nil},
	} {
		if got, e := lattice.Of(c.columns, c.rows); e != api.OK || !lattice.Equal(got, lattice.Lattice{Columns: c.columns, Basis: c.basis}) {
			t.Errorf("%d: Of = %v, %d", i, got, e)
		}
	}
}

// A lattice is an error exactly if an element of its basis is too great; numbers on the way can be as great as they like.
func TestOfLimits(t *testing.T) {
	for i, c := range []struct{ rows, basis api.Matrix }{
		{api.Matrix{{2, 0, 0}, {1, 500_000_000, 0}}, api.Matrix{{1, 500_000_000, 0}, {0, most, 0}}},
		{api.Matrix{{2, 1, 0}, {1, 500_000_001, 0}}, nil}, // determinant 1000000001
		{api.Matrix{{1, 1, -most + 1}, {0, 1, 1}}, api.Matrix{{1, 0, -most}, {0, 1, 1}}},
		{api.Matrix{{1, 1, -most}, {0, 1, 1}}, nil},
		{api.Matrix{{1, -1, most - 1}, {0, 1, 1}}, api.Matrix{{1, 0, most}, {0, 1, 1}}},
		{api.Matrix{{1, -1, most}, {0, 1, 1}}, nil},
		{api.Matrix{{most, most - 1, 0}, {most - 1, most - 2, 0}}, api.Matrix{{1, 0, 0}, {0, 1, 0}}},
		{api.Matrix{{1, most, 0}, {0, 1, most}, {0, 0, 1}}, even(3, 1)},
	} {
		got, e := lattice.Of(3, c.rows)
		if c.basis == nil && (e != api.ErrLimit || !lattice.Equal(got, none)) || c.basis != nil && (e != api.OK || !same(got.Basis, c.basis)) {
			t.Errorf("%d: Of = %v, %d", i, got, e)
		}
	}
}

func TestOfErrors(t *testing.T) {
	for _, c := range wrongLattices() {
		if c.e == api.ErrForm {
			continue // rows can be in any form
		}
		if got, e := lattice.Of(c.l.Columns, c.l.Basis); e != c.e || !lattice.Equal(got, none) {
			t.Errorf("Of(%d, %v) = %v, %d, not %d", c.l.Columns, c.l.Basis, got, e, c.e)
		}
	}
}

func TestCheck(t *testing.T) {
	for _, l := range lattices() {
		if e := lattice.Check(l); e != api.OK {
			t.Errorf("Check(%v) = %d", l, e)
		}
	}
	for _, c := range wrongLattices() {
		if e := lattice.Check(c.l); e != c.e {
			t.Errorf("Check(%v) = %d, not %d", c.l, e, c.e)
		}
	}
}

func TestEqual(t *testing.T) {
	l := []lattice.Lattice{
		{0, nil}, {1, nil}, {-1, nil}, {2, api.Matrix{{1, 0}}}, {2, api.Matrix{{0, 1}}}, {2, api.Matrix{{1, 0}, {0, 1}}}, {3, api.Matrix{{1, 0}}},
		{math.MaxInt, api.Matrix{{math.MinInt}, {1, 2}}}, {math.MaxInt, api.Matrix{{math.MinInt}, {1}}}, {0, api.Matrix{nil}}, {0, api.Matrix{nil, nil}},
	}
	for i, a := range l {
		for j, b := range l {
			if got := lattice.Equal(a, lattice.Lattice{Columns: b.Columns, Basis: deep(b.Basis)}); got != (i == j) {
				t.Errorf("Equal(%v, %v) = %t", a, b, got)
			}
		}
	}
	if !lattice.Equal(lattice.Lattice{Columns: 2}, lattice.Lattice{Columns: 2, Basis: api.Matrix{}}) || !lattice.Equal(lattice.Lattice{Basis: api.Matrix{nil}}, lattice.Lattice{Basis: api.Matrix{{}}}) {
		t.Error("nil and empty lists are equal")
	}
}

// P9.2

func TestMembers(t *testing.T) {
	r := rand.New(rand.NewPCG(9, 4))
	for _, l := range lattices() {
		for _, x := range rowsOf(r, l) {
			rest, multiples := divide(l.Basis, x)
			if is, e := lattice.Contains(l, x); e != api.OK || is != isZero(rest) {
				t.Errorf("Contains(%v, %v) = %t, %d", l, x, is, e)
			}
			want := api.OK
			switch {
			case !isZero(rest):
				want = api.ErrNone
			case !isRight(multiples):
				want = api.ErrLimit
			}
			c, e := lattice.Coordinates(l, x)
			if e != want || e == api.OK && !equal(c, multiples) || e != api.OK && c != nil {
				t.Errorf("Coordinates(%v, %v) = %v, %d", l, x, c, e)
			}
		}
	}
	for i, c := range []struct {
		l    lattice.Lattice
		x, c api.Row
		e    api.Errno
	}{
		{lattice.Lattice{3, api.Matrix{{1, 20, -14}, {0, 28, -19}}}, api.Row{-4, 4, -1}, api.Row{-4, 3}, api.OK},
		{lattice.Lattice{3, nil}, api.Row{0, 0, 0}, nil, api.OK},
		{lattice.Lattice{3, nil}, api.Row{0, 0, 1}, nil, api.ErrNone},
		{lattice.Lattice{0, nil}, nil, nil, api.OK},
		{lattice.Lattice{2, api.Matrix{{1, 1}, {0, 2}}}, api.Row{-most, most}, api.Row{-most, most}, api.OK},
		// The last coordinate is the last element less the two others, over 2: the greatest one, and one that is too great.
		{lattice.Lattice{3, api.Matrix{{1, 0, 1}, {0, 1, 1}, {0, 0, 2}}}, api.Row{-most + 1, -1, most}, api.Row{-most + 1, -1, most}, api.OK},
		{lattice.Lattice{3, api.Matrix{{1, 0, 1}, {0, 1, 1}, {0, 0, 2}}}, api.Row{-most + 1, -3, most}, nil, api.ErrLimit},
		{lattice.Lattice{3, api.Matrix{{1, 0, 1}, {0, 1, 1}, {0, 0, 2}}}, api.Row{most, most, -most}, nil, api.ErrLimit},
		{lattice.Lattice{4, api.Matrix{{1, 0, 1, 0}, {0, 1, 1, 0}, {0, 0, 2, 0}}}, api.Row{most, most, -most, 1}, nil, api.ErrNone},
	} {
		if got, e := lattice.Coordinates(c.l, c.x); e != c.e || !slices.Equal(got, c.c) {
			t.Errorf("%d: Coordinates = %v, %d", i, got, e)
		}
		if is, e := lattice.Contains(c.l, c.x); e != api.OK || is != (c.e != api.ErrNone) {
			t.Errorf("%d: Contains = %t, %d", i, is, e)
		}
	}
}

func TestWithin(t *testing.T) {
	within := 0
	for a, b := range pairs {
		want := hasAll(b, a.Basis)
		if want {
			within++
		}
		if got, e := lattice.Within(a, b); e != api.OK || got != want {
			t.Errorf("Within(%v, %v) = %t, %d", a, b, got, e)
		}
	}
	if within < 50 {
		t.Errorf("only %d lattices are within others", within)
	}
}

// P9.3

func TestSum(t *testing.T) {
	tooGreat := 0
	for a, b := range pairs {
		got, e := lattice.Sum(a, b)
		if expectLattice(t, "Sum", got, e, a.Columns, formOf(bigRows(a.Basis, b.Basis), a.Columns)) {
			tooGreat++
		}
	}
	if tooGreat < 5 {
		t.Errorf("only %d sums are too great", tooGreat)
	}
}

// The rows of both are those multiples of the rows of a that are also a sum of multiples of the rows of b.
func TestIntersect(t *testing.T) {
	tooGreat := 0
	for a, b := range pairs {
		var both [][]*big.Int
		for _, multiples := range kernelOf(bigRows(a.Basis, b.Basis), a.Columns) {
			sum := bigRow(make(api.Row, a.Columns))
			for i, r := range a.Basis {
				for j, n := range bigRow(r) {
					sum[j].Add(sum[j], n.Mul(n, multiples[i]))
				}
			}
			both = append(both, sum)
		}
		got, e := lattice.Intersect(a, b)
		if expectLattice(t, "Intersect", got, e, a.Columns, formOf(both, a.Columns)) {
			tooGreat++
		}
	}
	if tooGreat < 5 {
		t.Errorf("only %d intersections are too great", tooGreat)
	}
}

// By the definition: a row belongs to the intersection exactly if it belongs to both.
func TestSmallRows(t *testing.T) {
	r := rand.New(rand.NewPCG(9, 5))
	for range 60 {
		a, b := randomForm(r, 3, 3, 3), randomForm(r, 3, 3, 3)
		both, e := lattice.Intersect(a, b)
		if e != api.OK {
			t.Errorf("Intersect(%v, %v): %d", a, b, e)
		}
		for _, x := range rowsInBox(lattice.Lattice{Columns: 3, Basis: even(3, 1)}, 5) {
			if has(both, x) != (has(a, x) && has(b, x)) {
				t.Errorf("%v in the intersection of %v and %v", x, a, b)
			}
		}
	}
}

// Limits depend on the result alone: the greatest elements, and the first ones that are too great.
func TestPairLimits(t *testing.T) {
	line := func(n int) lattice.Lattice { return lattice.Lattice{Columns: 1, Basis: api.Matrix{{n}}} }
	for i, c := range []struct {
		a, b      lattice.Lattice
		sum, both api.Matrix
	}{
		{line(31250), line(32000), api.Matrix{{250}}, api.Matrix{{4_000_000}}},
		{line(999_999_936), line(most), api.Matrix{{64}}, nil},
		{line(most), line(most), api.Matrix{{most}}, api.Matrix{{most}}},
		{line(1 << 9), line(1953125), api.Matrix{{1}}, api.Matrix{{most}}},
		{line(27), line(37_037_038), api.Matrix{{1}}, nil}, // 1000000026
		{line(most), line(most - 1), api.Matrix{{1}}, nil},
		{lattice.Lattice{2, api.Matrix{{1, most}}}, lattice.Lattice{2, api.Matrix{{1, 0}}}, api.Matrix{{1, 0}, {0, most}}, api.Matrix{}},
		{lattice.Lattice{2, api.Matrix{{1, most}}}, lattice.Lattice{2, api.Matrix{{1, -1}}}, nil, api.Matrix{}},
		{lattice.Lattice{2, api.Matrix{{1, 500_000_000}}}, lattice.Lattice{2, api.Matrix{{2, 0}}}, api.Matrix{{1, 500_000_000}, {0, most}}, api.Matrix{}},
		{lattice.Lattice{2, api.Matrix{{1, 500_000_000}}}, lattice.Lattice{2, api.Matrix{{2, 0}, {0, most}}}, api.Matrix{{1, 500_000_000}, {0, most}}, api.Matrix{{2, most}}},
		{lattice.Lattice{12, even(12, 1<<29)}, lattice.Lattice{12, even(12, 1)}, even(12, 1), even(12, 1<<29)},
		{lattice.Lattice{12, even(12, 387_420_489)}, lattice.Lattice{12, even(12, 1<<29)}, even(12, 1), nil},
	} {
		sum, e := lattice.Sum(c.a, c.b)
		if c.sum == nil && e != api.ErrLimit || c.sum != nil && (e != api.OK || !same(sum.Basis, c.sum)) {
			t.Errorf("%d: Sum = %v, %d", i, sum, e)
		}
		both, e := lattice.Intersect(c.a, c.b)
		if c.both == nil && e != api.ErrLimit || c.both != nil && (e != api.OK || !same(both.Basis, c.both)) {
			t.Errorf("%d: Intersect = %v, %d", i, both, e)
		}
	}
}

// P9.4

func TestSaturate(t *testing.T) {
	tooGreat, different := 0, 0
	for _, l := range lattices() {
		got, e := lattice.Saturate(l)
		annihilator := annihilatorOf(bigRows(l.Basis), l.Columns)
		if expectLattice(t, "Saturate", got, e, l.Columns, annihilatorOf(annihilator, l.Columns)) {
			tooGreat++
			continue
		}
		if !lattice.Equal(got, l) {
			different++
		}
		// By the definition: it has all rows of the lattice, and no more that are independent; that it lacks none, the minors tell.
		if len(got.Basis) != len(l.Basis) || !hasAll(got, l.Basis) || !commonMinor(got.Basis, l.Columns).IsInt64() || commonMinor(got.Basis, l.Columns).Int64() != 1 {
			t.Errorf("Saturate(%v) = %v", l, got)
		}
	}
	if tooGreat < 3 || different < 20 {
		t.Errorf("%d are too great, %d are different", tooGreat, different)
	}
}

func TestAnnihilator(t *testing.T) {
	tooGreat := 0
	for _, l := range lattices() {
		got, e := lattice.Annihilator(l)
		if expectLattice(t, "Annihilator", got, e, l.Columns, annihilatorOf(bigRows(l.Basis), l.Columns)) {
			tooGreat++
			continue
		}
		for _, x := range got.Basis {
			for _, y := range l.Basis {
				sum := new(big.Int)
				for j, n := range bigRow(x) {
					sum.Add(sum, n.Mul(n, big.NewInt(int64(y[j]))))
				}
				if sum.Sign() != 0 {
					t.Errorf("Annihilator(%v) = %v", l, got)
				}
			}
		}
		if len(got.Basis)+len(l.Basis) != l.Columns || commonMinor(got.Basis, l.Columns).Cmp(big.NewInt(1)) != 0 {
			t.Errorf("Annihilator(%v) = %v", l, got)
		}
	}
	if tooGreat < 5 {
		t.Errorf("only %d annihilators are too great", tooGreat)
	}
}

// Limits depend on the result alone: a saturation can have room though the annihilator has none, and the other way round.
func TestSaturationLimits(t *testing.T) {
	for i, c := range []struct{ l, saturation, annihilator api.Matrix }{
		{api.Matrix{{most, most, most}}, api.Matrix{{1, 1, 1}}, api.Matrix{{1, 0, -1}, {0, 1, -1}}},
		{api.Matrix{{1, most, 0}}, api.Matrix{{1, most, 0}}, api.Matrix{{most, -1, 0}, {0, 0, 1}}},
		{api.Matrix{{1, 0, 31250}, {0, 1, 32000}}, api.Matrix{{1, 0, 31250}, {0, 1, 32000}}, api.Matrix{{31250, 32000, -1}}},
		{api.Matrix{{3, 1, 0}, {0, 500_000_000, 1}}, api.Matrix{{3, 1, 0}, {0, 500_000_000, 1}}, nil},
		{api.Matrix{{2, 1, 0}, {0, 500_000_000, 1}}, api.Matrix{{2, 1, 0}, {0, 500_000_000, 1}}, api.Matrix{{1, -2, most}}},
		// Halving the second row makes the first one greater, as its second element must be less than the pivot then.
		{api.Matrix{{1, 1, 0}, {0, 2, most}}, api.Matrix{{1, 0, -most / 2}, {0, 1, most / 2}}, api.Matrix{{most / 2, -most / 2, 1}}},
		{api.Matrix{{1, 1, -most / 2}, {0, 2, most}}, api.Matrix{{1, 0, -most}, {0, 1, most / 2}}, api.Matrix{{most, -most / 2, 1}}},
		{api.Matrix{{1, 1, -most/2 - 1}, {0, 2, most}}, nil, nil},
		{even(3, most), even(3, 1), api.Matrix{}},
	} {
		l := lattice.Lattice{Columns: 3, Basis: c.l}
		for what, want := range map[string]api.Matrix{"Saturate": c.saturation, "Annihilator": c.annihilator} {
			got, e := lattice.Saturate(l)
			if what == "Annihilator" {
				got, e = lattice.Annihilator(l)
			}
			if want == nil && (e != api.ErrLimit || !lattice.Equal(got, none)) || want != nil && (e != api.OK || !same(got.Basis, want)) {
				t.Errorf("%d: %s = %v, %d", i, what, got, e)
			}
		}
	}
}

func TestIndex(t *testing.T) {
	for _, l := range lattices() {
		want := commonMinor(l.Basis, l.Columns)
		got, e := lattice.Index(l)
		if right := want.Cmp(big.NewInt(most)) <= 0; right && (e != api.OK || int64(got) != want.Int64()) || !right && (e != api.ErrLimit || got != 0) {
			t.Errorf("Index(%v) = %d, %d, not %v", l, got, e, want)
		}
	}
	for i, c := range []struct {
		l    lattice.Lattice
		want int
	}{
		{lattice.Lattice{3, api.Matrix{{2, 4, 0}, {0, 6, 0}}}, 12},
		{lattice.Lattice{0, nil}, 1},
		{lattice.Lattice{12, nil}, 1},
		{lattice.Lattice{1, api.Matrix{{most}}}, most},
		{lattice.Lattice{2, api.Matrix{{most, most}}}, most},
		{lattice.Lattice{2, diagonal(31250, 32000)}, most},
		{lattice.Lattice{9, even(9, 10)}, most},
		{lattice.Lattice{3, api.Matrix{{1, 0, most}, {0, 3, 0}}}, 3},
		{lattice.Lattice{2, diagonal(7, 142_857_143)}, 0}, // 1000000001
		{lattice.Lattice{2, diagonal(2, 500_000_002)}, 0}, // 1000000004
		{lattice.Lattice{2, diagonal(most, 2)}, 0},
		{lattice.Lattice{10, even(10, 10)}, 0},
		{lattice.Lattice{4, even(4, 1<<16)}, 0}, // a power of 2 that wraps around to 0
		{lattice.Lattice{12, even(12, most)}, 0},
	} {
		want := api.OK
		if c.want == 0 {
			want = api.ErrLimit
		}
		if got, e := lattice.Index(c.l); e != want || got != c.want {
			t.Errorf("%d: Index = %d, %d", i, got, e)
		}
	}
}

// By the definition: as many rows of the saturation are reduced modulo the lattice as the Index says.
func TestClasses(t *testing.T) {
	r := rand.New(rand.NewPCG(9, 6))
	for range 40 {
		l := randomForm(r, 2, 4, 6)
		saturation, e := lattice.Saturate(l)
		if e != api.OK {
			t.Errorf("Saturate(%v): %d", l, e)
		}
		classes := map[[2]int]bool{}
		for _, x := range rowsInBox(saturation, 20) {
			rest, e := lattice.Represent(l, x)
			if e != api.OK {
				t.Errorf("Represent(%v, %v): %d", l, x, e)
			}
			classes[[2]int(rest)] = true
		}
		if n, e := lattice.Index(l); e != api.OK || n != len(classes) {
			t.Errorf("Index(%v) = %d, %d, not %d", l, n, e, len(classes))
		}
	}
}

// P9.5

func TestRepresent(t *testing.T) {
	r := rand.New(rand.NewPCG(9, 7))
	tooGreat := 0
	for _, l := range lattices() {
		for _, x := range rowsOf(r, l) {
			want, _ := divide(l.Basis, x)
			got, e := lattice.Represent(l, x)
			switch right := isRight(want); {
			case !right:
				tooGreat++
				if e != api.ErrLimit || got != nil {
					t.Errorf("Represent(%v, %v) = %v, %d", l, x, got, e)
				}
			case e != api.OK || !equal(got, want):
				t.Errorf("Represent(%v, %v) = %v, %d, not %v", l, x, got, e, want)
			}
		}
	}
	if tooGreat < 5 {
		t.Errorf("only %d representatives are too great", tooGreat)
	}
	for i, c := range []struct {
		l       lattice.Lattice
		x, want api.Row
	}{
		{lattice.Lattice{3, api.Matrix{{2, 4, 0}, {0, 6, 0}}}, api.Row{5, 1, 7}, api.Row{1, 5, 7}},
		{lattice.Lattice{3, api.Matrix{{2, 4, 0}, {0, 6, 0}}}, api.Row{-1, 0, -7}, api.Row{1, 4, -7}},
		{lattice.Lattice{3, nil}, api.Row{-most, 0, most}, api.Row{-most, 0, most}},
		{lattice.Lattice{0, nil}, nil, nil},
		{lattice.Lattice{2, api.Matrix{{1, 1}}}, api.Row{most, 0}, api.Row{0, -most}},
		{lattice.Lattice{2, api.Matrix{{1, 1}}}, api.Row{most, -1}, nil},
		{lattice.Lattice{2, api.Matrix{{1, -1}}}, api.Row{most - 1, 1}, api.Row{0, most}},
		{lattice.Lattice{2, api.Matrix{{1, -1}}}, api.Row{most, 1}, nil},
		// a multiple that is too great for a row, though the representative is not
		{lattice.Lattice{3, api.Matrix{{1, 0, 1}, {0, 1, 1}, {0, 0, 2}}}, api.Row{most, most, -most}, api.Row{0, 0, 0}},
		{lattice.Lattice{3, api.Matrix{{1, 0, 1}, {0, 1, 1}, {0, 0, 2}}}, api.Row{most, most, -most + 1}, api.Row{0, 0, 1}},
		{lattice.Lattice{3, api.Matrix{{1, most - 1, 0}, {0, most, 0}}}, api.Row{most, -most, 5}, api.Row{0, 0, 5}},
	} {
		got, e := lattice.Represent(c.l, c.x)
		want := api.OK
		if len(c.want) < len(c.x) {
			want = api.ErrLimit
		}
		if e != want || !slices.Equal(got, c.want) {
			t.Errorf("%d: Represent = %v, %d", i, got, e)
		}
	}
}

// rowsInBox returns the rows of a lattice in a box, in lexicographic order, out of all rows in it.
func rowsInBox(l lattice.Lattice, most int) []api.Row {
	rows := []api.Row{nil}
	for range l.Columns {
		var longer []api.Row
		for _, r := range rows {
			for n := -most; n <= most; n++ {
				longer = append(longer, append(slices.Clone(r), n))
			}
		}
		rows = longer
	}
	return slices.DeleteFunc(rows, func(r api.Row) bool { return !has(l, r) })
}

func TestBox(t *testing.T) {
	r := rand.New(rand.NewPCG(9, 8))
	for range 150 {
		columns := 1 + r.IntN(4)
		bound := []int{9, 5, 2, 1}[columns-1] + r.IntN(2)
		pivots := 1 + r.IntN(4)
		others := []int{3, 10, most}[r.IntN(3)]
		l := randomForm(r, columns, pivots, others)
		if got, e := lattice.Box(l, bound); e != api.OK || !same(got, rowsInBox(l, bound)) {
			t.Errorf("Box(%v, %d) = %v, %d", l, bound, got, e)
		}
	}
	for i, c := range []struct {
		l    lattice.Lattice
		most int
		want []api.Row
	}{
		{lattice.Lattice{3, api.Matrix{{2, 4, 0}, {0, 6, 0}}}, 4, []api.Row{{-4, -2, 0}, {-4, 4, 0}, {-2, -4, 0}, {-2, 2, 0}, {0, 0, 0}, {2, -2, 0}, {2, 4, 0}, {4, -4, 0}, {4, 2, 0}}},
		{lattice.Lattice{0, nil}, 0, []api.Row{{}}},
		{lattice.Lattice{0, nil}, math.MaxInt, []api.Row{{}}},
		{lattice.Lattice{3, nil}, math.MaxInt, []api.Row{{0, 0, 0}}},
		{lattice.Lattice{12, even(12, 1)}, 0, []api.Row{make(api.Row, 12)}},
		{lattice.Lattice{12, even(12, most)}, 0, []api.Row{make(api.Row, 12)}},
		{lattice.Lattice{1, api.Matrix{{49_999}}}, 49_999, []api.Row{{-49_999}, {0}, {49_999}}},
		{lattice.Lattice{1, api.Matrix{{50_000}}}, 49_999, []api.Row{{0}}},
		{lattice.Lattice{2, api.Matrix{{1, -most}}}, 49_999, []api.Row{{0, 0}}},
		{lattice.Lattice{2, api.Matrix{{1, most - 1}, {0, most}}}, 1, []api.Row{{-1, 1}, {0, 0}, {1, -1}}},
		{lattice.Lattice{3, api.Matrix{{1, most - 1, 0}, {0, most, most}}}, 1, []api.Row{{0, 0, 0}}},
		{lattice.Lattice{3, api.Matrix{{1, most - 1, most - 1}, {0, most, most}}}, 1, []api.Row{{-1, 1, 1}, {0, 0, 0}, {1, -1, -1}}},
	} {
		if got, e := lattice.Box(c.l, c.most); e != api.OK || !same(got, c.want) {
			t.Errorf("%d: Box = %v, %d", i, got, e)
		}
	}
}

func TestBoxLimits(t *testing.T) {
	for i, c := range []struct {
		l    lattice.Lattice
		most int
		n    int // of the rows; 0 for an error
		e    api.Errno
	}{
		{lattice.Lattice{1, api.Matrix{{1}}}, 49_999, 99_999, api.OK},
		{lattice.Lattice{1, api.Matrix{{1}}}, 50_000, 0, api.ErrLimit},
		{lattice.Lattice{1, api.Matrix{{most}}}, 50_000, 0, api.ErrLimit},
		{lattice.Lattice{2, even(2, 1)}, 157, 315 * 315, api.OK},
		{lattice.Lattice{2, even(2, 1)}, 158, 0, api.ErrLimit},
		{lattice.Lattice{12, even(12, 1)[2:]}, 1, 59_049, api.OK},
		{lattice.Lattice{12, even(12, 1)[1:]}, 1, 0, api.ErrLimit},
		// numbers for which twice them, or a power, wraps around
		{lattice.Lattice{1, api.Matrix{{1}}}, math.MaxInt, 0, api.ErrLimit},
		{lattice.Lattice{2, even(2, 1)}, math.MaxInt, 0, api.ErrLimit},
		{lattice.Lattice{1, api.Matrix{{1}}}, 1 << 62, 0, api.ErrLimit},
		{lattice.Lattice{2, even(2, 1)}, 1<<31 - 1, 0, api.ErrLimit},
		{lattice.Lattice{12, even(12, 1)}, 1 << 62, 0, api.ErrLimit},
		{lattice.Lattice{1, api.Matrix{{1}}}, -1, 0, api.ErrRange},
		{lattice.Lattice{0, nil}, -1, 0, api.ErrRange},
		{lattice.Lattice{12, even(12, 1)}, math.MinInt, 0, api.ErrRange},
	} {
		if got, e := lattice.Box(c.l, c.most); e != c.e || len(got) != c.n {
			t.Errorf("%d: Box: %d rows, %d", i, len(got), e)
		}
	}
}

// P9.6

func TestConsequences(t *testing.T) {
	must := func(l lattice.Lattice, e api.Errno) lattice.Lattice {
		t.Helper()
		if e != api.OK {
			t.Fatalf("error %d", e)
		}
		return l
	}
	within := func(a, b lattice.Lattice) bool {
		is, e := lattice.Within(a, b)
		return is && e == api.OK
	}
	r := rand.New(rand.NewPCG(9, 9))
	for range 200 {
		columns := r.IntN(5)
		a, b := randomForm(r, columns, 3, 5), randomForm(r, columns, 3, 5)
		if !lattice.Equal(must(lattice.Of(columns, a.Basis)), a) {
			t.Errorf("%v has another lattice", a)
		}
		sum, both := must(lattice.Sum(a, b)), must(lattice.Intersect(a, b))
		if !within(both, a) || !within(both, b) || !within(a, sum) || !within(b, sum) {
			t.Errorf("%v, %v: sum %v, intersection %v", a, b, sum, both)
		}
		if !lattice.Equal(must(lattice.Sum(a, both)), a) || !lattice.Equal(must(lattice.Intersect(a, sum)), a) {
			t.Errorf("%v, %v: no absorption", a, b)
		}
		fromA, fromB, fromSum := must(lattice.Annihilator(a)), must(lattice.Annihilator(b)), must(lattice.Annihilator(sum))
		saturation := must(lattice.Saturate(a))
		if !lattice.Equal(must(lattice.Annihilator(fromA)), saturation) || len(fromA.Basis)+len(a.Basis) != columns {
			t.Errorf("%v has the annihilator %v", a, fromA)
		}
		if !within(fromSum, fromA) || !lattice.Equal(must(lattice.Intersect(fromA, fromB)), fromSum) {
			t.Errorf("%v, %v: annihilators %v, %v", a, b, fromA, fromB)
		}
		n, e := lattice.Index(a)
		if e != api.OK || (n == 1) != lattice.Equal(a, saturation) {
			t.Errorf("Index(%v) = %d, %d", a, n, e)
		}
		x, y := random(r, 2, columns, 3)[0], random(r, 1, columns, 3)[0]
		difference := make(api.Row, columns)
		for i := range x {
			difference[i] = x[i] - y[i]
		}
		forX, e := lattice.Represent(a, x)
		forY, f := lattice.Represent(a, y)
		if is, g := lattice.Contains(a, difference); e != api.OK || f != api.OK || g != api.OK || is != slices.Equal(forX, forY) {
			t.Errorf("%v: %v, %v", a, x, y)
		}
	}
}
