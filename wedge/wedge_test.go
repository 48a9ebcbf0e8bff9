package wedge_test

import (
	"math"
	"math/big"
	"math/rand/v2"
	"slices"
	"testing"

	"schisma/api"
	"schisma/lattice"
	"schisma/wedge"
)

// none is the product that is returned with an error.
var none = wedge.Multi{}

// P10.1

func TestSets(t *testing.T) {
	for dimension := -2; dimension <= 14; dimension++ {
		for grade := -2; grade <= 15; grade++ {
			got, e := wedge.Sets(dimension, grade)
			if dimension < 0 || dimension > 12 || grade < 0 || grade > dimension {
				if e != api.ErrRange || got != nil {
					t.Errorf("Sets(%d, %d) = %v, %d", dimension, grade, got, e)
				}
				continue
			}
			if e != api.OK || !slices.EqualFunc(got, choose(0, dimension, grade), func(a, b []int) bool { return slices.Equal(a, b) }) {
				t.Errorf("Sets(%d, %d) = %v, %d", dimension, grade, got, e)
			}
		}
	}
	for _, n := range []int{math.MinInt, math.MaxInt} {
		for _, m := range []int{0, 3, math.MinInt, math.MaxInt} {
			if got, e := wedge.Sets(n, m); e != api.ErrRange || got != nil {
				t.Errorf("Sets(%d, %d) = %v, %d", n, m, got, e)
			}
			if got, e := wedge.Sets(3, n); e != api.ErrRange || got != nil {
				t.Errorf("Sets(3, %d) = %v, %d", n, got, e)
			}
		}
	}
	// no two sets share memory
	l, _ := wedge.Sets(4, 2)
	for i := range l {
		_ = append(l[i][:1], 9, 9, 9)
		for j, want := range choose(0, 4, 2) {
			if j > i && !slices.Equal(l[j], want) {
				t.Errorf("set %d became %v", j, l[j])
			}
		}
	}
}

func TestCheck(t *testing.T) {
	for _, x := range products() {
		if e := wedge.Check(x); e != api.OK {
			t.Errorf("Check(%v) = %d", x, e)
		}
	}
	for _, c := range wrongProducts() {
		if e := wedge.Check(c.x); e != c.e {
			t.Errorf("Check(%v) = %d, not %d", c.x, e, c.e)
		}
	}
}

func TestEqual(t *testing.T) {
	l := []wedge.Multi{
		{}, multi(0, 0, "1"), multi(1, 0, "1"), multi(1, 1, "1"), multi(1, 1, "-1"), multi(1, 1, "1", "1"), multi(-5, 99), multi(-5, 98), multi(math.MaxInt, 0, "x"), multi(math.MaxInt, 0, ""),
		multi(2, 1, "1", "0"), multi(2, 1, "0", "1"),
	}
	for i, a := range l {
		for j, b := range l {
			b.Coordinates = slices.Clone(b.Coordinates)
			if wedge.Equal(a, b) != (i == j) {
				t.Errorf("Equal(%v, %v) = %t", a, b, i != j)
			}
		}
	}
	if !wedge.Equal(wedge.Multi{Grade: 2}, wedge.Multi{Grade: 2, Coordinates: []api.Int{}}) {
		t.Error("nil and empty lists are equal")
	}
}

// P10.2

func TestOf(t *testing.T) {
	r := rand.New(rand.NewPCG(10, 2))
	for dimension := range 7 {
		for rows := range dimension + 1 {
			for _, bound := range []int{0, 1, 20, most} {
				m := random(r, rows, dimension, bound)
				want := value{dimension, 0, []*big.Int{big.NewInt(1)}}
				for _, x := range m {
					want = want.times(rowValue(x))
				}
				got, e := wedge.Of(m, dimension)
				expect(t, "Of", got, e, want)
			}
		}
	}
	for dimension := range 13 {
		for _, rows := range []int{0, 1, dimension / 2, dimension} {
			x, e := wedge.Of(filled(min(rows, dimension), dimension, most), dimension)
			if e != api.OK || wedge.Check(x) != api.OK || x.Grade != min(rows, dimension) {
				t.Errorf("Of %d rows of %d = %v, %d", rows, dimension, x, e)
			}
		}
	}
	// the greatest dimension and elements: a matrix of Hadamard, whose determinant is 12 to the power 6 times that of its factor
	hadamard := filled(12, 12, most)
	for i := 1; i < 12; i++ {
		for j := 1; j < 12; j++ {
			if !slices.Contains([]int{0, 1, 3, 4, 5, 9}, (i+j)%11) {
				hadamard[i][j] = -most
			}
		}
		hadamard[i][0] = -most
	}
	want := value{12, 0, []*big.Int{big.NewInt(1)}}
	x, e := wedge.Of(hadamard, 12)
	for _, r := range hadamard {
		want = want.times(rowValue(r))
	}
	expect(t, "Of", x, e, want)
}

func TestOfErrors(t *testing.T) {
	for i, c := range []struct {
		m         api.Matrix
		dimension int
		e         api.Errno
	}{
		{nil, -1, api.ErrRange},
		{nil, 13, api.ErrRange},
		{filled(13, 13, most+1), math.MaxInt, api.ErrRange},
		{filled(1, 2, most+1), math.MinInt, api.ErrRange},
		{make(api.Matrix, 13), 0, api.ErrLimit},
		{filled(13, 2, 0), 3, api.ErrLimit},
		{filled(1, 13, 0), 12, api.ErrLimit},
		{api.Matrix{{1, most + 1}}, 3, api.ErrLimit},
		{api.Matrix{{1, 0}, {0, math.MinInt}, {0, 0}}, 2, api.ErrLimit},
		{api.Matrix{{1, 2}, {1}}, 3, api.ErrSize},
		{api.Matrix{{1}, {1, 2}}, 1, api.ErrSize},
		{api.Matrix{{1, 2}}, 3, api.ErrSize},
		{api.Matrix{{1, 2}, {3, 4}, {5, 6}}, 1, api.ErrSize},
		{api.Matrix{{}}, 1, api.ErrSize},
		{api.Matrix{{1}}, 0, api.ErrSize},
		{api.Matrix{{1}, {2}}, 1, api.ErrRange},
		{api.Matrix{{}}, 0, api.ErrRange},
		{filled(12, 11, 0), 11, api.ErrRange},
	} {
		if got, e := wedge.Of(c.m, c.dimension); e != c.e || !wedge.Equal(got, none) {
			t.Errorf("%d: Of = %v, %d, not %d", i, got, e, c.e)
		}
	}
}

func TestUnit(t *testing.T) {
	for dimension := range 13 {
		if got, e := wedge.Unit(dimension); e != api.OK || !wedge.Equal(got, multi(dimension, 0, "1")) {
			t.Errorf("Unit(%d) = %v, %d", dimension, got, e)
		}
	}
	for _, dimension := range []int{-1, 13, math.MinInt, math.MaxInt} {
		if got, e := wedge.Unit(dimension); e != api.ErrRange || !wedge.Equal(got, none) {
			t.Errorf("Unit(%d) = %v, %d", dimension, got, e)
		}
	}
}

// P10.3

func TestProduct(t *testing.T) {
	l := products()
	for _, a := range l {
		for _, b := range l {
			got, e := wedge.Product(a, b)
			switch {
			case a.Dimension != b.Dimension:
				if e != api.ErrSize || !wedge.Equal(got, none) {
					t.Errorf("Product(%v, %v) = %v, %d", a, b, got, e)
				}
			case a.Grade+b.Grade > a.Dimension:
				if e != api.ErrRange || !wedge.Equal(got, none) {
					t.Errorf("Product(%v, %v) = %v, %d", a, b, got, e)
				}
			case !isLong(a) && !isLong(b):
				expect(t, "Product", got, e, valueOf(a).times(valueOf(b)))
			}
		}
	}
	r := rand.New(rand.NewPCG(10, 3))
	for _, grades := range [][2]int{{0, 6}, {1, 5}, {6, 6}, {3, 2}, {12, 0}, {11, 1}, {1, 11}} {
		a, b := anyProduct(r, 12, grades[0], 12), anyProduct(r, 12, grades[1], 12)
		got, e := wedge.Product(a, b)
		expect(t, "Product", got, e, valueOf(a).times(valueOf(b)))
	}
}

// Products of coordinates, and their sums, have at most 400 digits, or are an error.
func TestProductDigits(t *testing.T) {
	half, more := power("1", 199), power("1", 200)
	for i, c := range []struct {
		a, b wedge.Multi
		want []api.Int
	}{
		{multi(2, 0, half), multi(2, 1, more, "-3"), []api.Int{power("1", 399), power("-3", 199)}},
		{multi(2, 0, more), multi(2, 1, "0", more), nil},
		{multi(2, 1, more, "0"), multi(2, 1, "0", "-"+more), nil},
		{multi(2, 1, "0", more), multi(2, 1, "0", more), []api.Int{"0"}}, // they do not meet
		{multi(2, 1, power("5", 199), "-"+half), multi(2, 1, power("4", 200), power("1", 200)), []api.Int{power("9", 399)}},
		{multi(2, 1, power("5", 199), "-"+half), multi(2, 1, power("5", 200), power("1", 200)), nil},
		{multi(2, 1, power("5", 199), "-"+half), multi(2, 1, power("-5", 200), power("1", 200)), []api.Int{"0"}},
		{multi(2, 1, power("-5", 199), half), multi(2, 1, power("5", 200), power("1", 200)), nil},
		{multi(2, 1, more, more), multi(2, 1, more, more), nil}, // 0, but not on the way
		{multi(0, 0, power("9", 399)), multi(0, 0, "1"), []api.Int{power("9", 399)}},
		{multi(0, 0, power("9", 399)), multi(0, 0, "-2"), nil},
	} {
		got, e := wedge.Product(c.a, c.b)
		if c.want == nil && (e != api.ErrNumber || !wedge.Equal(got, none)) || c.want != nil && (e != api.OK || !slices.Equal(got.Coordinates, c.want)) {
			t.Errorf("%d: Product = %v, %d", i, got, e)
		}
	}
}

// P10.4

func TestContent(t *testing.T) {
	for _, x := range products() {
		v := valueOf(x)
		content, negative := new(big.Int), false
		for _, n := range v.coordinates {
			if content.Sign() == 0 {
				negative = n.Sign() < 0
			}
			content.GCD(nil, nil, content, new(big.Int).Abs(n))
		}
		if got, e := wedge.Content(x); e != api.OK || string(got) != content.String() {
			t.Errorf("Content(%v) = %s, %d, not %v", x, got, e, content)
		}
		if negative {
			content.Neg(content)
		}
		if content.Sign() != 0 {
			for _, n := range v.coordinates {
				n.Quo(n, content)
			}
		}
		got, e := wedge.Canonical(x)
		expect(t, "Canonical", got, e, v)
	}
	for i, c := range []struct {
		x, canonical wedge.Multi
		content      api.Int
	}{
		{multi(3, 1, "0", "-4", "6"), multi(3, 1, "0", "2", "-3"), "2"},
		{multi(3, 2, "0", "0", "0"), multi(3, 2, "0", "0", "0"), "0"},
		{multi(0, 0, "-5"), multi(0, 0, "1"), "5"},
		{multi(2, 1, power("-9", 399), power("3", 399)), multi(2, 1, "3", "-1"), power("3", 399)},
		{multi(2, 1, power("9", 399), "-1"), multi(2, 1, power("9", 399), "-1"), "1"},
	} {
		if got, e := wedge.Content(c.x); e != api.OK || got != c.content {
			t.Errorf("%d: Content = %s, %d", i, got, e)
		}
		if got, e := wedge.Canonical(c.x); e != api.OK || !wedge.Equal(got, c.canonical) {
			t.Errorf("%d: Canonical = %v, %d", i, got, e)
		}
	}
}

// P10.5

func TestDual(t *testing.T) {
	r := rand.New(rand.NewPCG(10, 4))
	l := append(products(), anyProduct(r, 12, 6, 12), anyProduct(r, 12, 5, 12), anyProduct(r, 11, 3, 400))
	for _, x := range l {
		want := value{x.Dimension, x.Dimension - x.Grade, nil}
		v := valueOf(x)
		for _, set := range choose(0, x.Dimension, want.grade) {
			var complement []int
			for i := range x.Dimension {
				if !slices.Contains(set, i) {
					complement = append(complement, i)
				}
			}
			n := v.at(complement)
			want.coordinates = append(want.coordinates, n.Mul(n, big.NewInt(int64(sign(append(complement, set...))))))
		}
		got, e := wedge.Dual(x)
		expect(t, "Dual", got, e, want)
	}
	if got, e := wedge.Dual(multi(3, 2, "1", "4", "4")); e != api.OK || !wedge.Equal(got, multi(3, 1, "4", "-4", "1")) {
		t.Errorf("Dual = %v, %d", got, e)
	}
}

func TestInterior(t *testing.T) {
	r := rand.New(rand.NewPCG(10, 5))
	l := append(products(), anyProduct(r, 12, 6, 12), anyProduct(r, 12, 1, 300), anyProduct(r, 12, 12, 12))
	for _, x := range l {
		if x.Grade == 0 || isLong(x) {
			continue
		}
		v := valueOf(x)
		for _, bound := range []int{0, 1, 30, most} {
			y := random(r, 1, x.Dimension, bound)[0]
			want := value{x.Dimension, x.Grade - 1, nil}
			for _, set := range choose(0, x.Dimension, want.grade) {
				sum := new(big.Int)
				for i, n := range y {
					// at has the sign of the permutation, and is 0 for an index that is in the set
					a := v.at(append([]int{i}, set...))
					sum.Add(sum, a.Mul(a, big.NewInt(int64(n))))
				}
				want.coordinates = append(want.coordinates, sum)
			}
			got, e := wedge.Interior(x, y)
			expect(t, "Interior", got, e, want)
		}
	}
	for i, c := range []struct {
		x    wedge.Multi
		y    api.Row
		e    api.Errno
		want []api.Int
	}{
		{multi(3, 2, "1", "4", "4"), api.Row{1, 0, 0}, api.OK, []api.Int{"0", "1", "4"}},
		{multi(1, 1, "7"), api.Row{-most}, api.OK, []api.Int{"-7000000000"}},
		{multi(0, 0, "1"), nil, api.ErrRange, nil},
		{multi(2, 0, "1"), api.Row{1, 2}, api.ErrRange, nil},
		{multi(2, 0, "1"), api.Row{most + 1}, api.ErrRange, nil},
		{multi(2, 1, "1", "1"), nil, api.ErrSize, nil},
		{multi(2, 1, "1", "1"), api.Row{1}, api.ErrSize, nil},
		{multi(2, 1, "1", "1"), api.Row{1, 2, 3}, api.ErrSize, nil},
		{multi(2, 1, "1", "1"), api.Row{most + 1}, api.ErrSize, nil},
		{multi(2, 1, "1", "1"), make(api.Row, 65), api.ErrSize, nil},
		{multi(2, 1, "1", "1"), api.Row{0, most + 1}, api.ErrLimit, nil},
		{multi(2, 1, "1", "1"), api.Row{-most - 1, 0}, api.ErrLimit, nil},
		{multi(2, 1, "0", "0"), api.Row{math.MinInt, 0}, api.ErrLimit, nil},
		{multi(2, 1, "0", "0"), api.Row{0, math.MaxInt}, api.ErrLimit, nil},
		{multi(2, 1, power("9", 390), "0"), api.Row{most, most}, api.OK, []api.Int{power("9", 399)}},
		{multi(2, 1, power("9", 390), "-1"), api.Row{most, most}, api.OK, []api.Int{nines(391) + power("0", 8)}},
		{multi(2, 1, power("9", 391), "0"), api.Row{most, 0}, api.ErrNumber, nil},
		{multi(2, 1, power("9", 391), power("9", 391)), api.Row{most, -most}, api.ErrNumber, nil}, // 0, but not on the way
		{multi(2, 1, power("9", 390), power("1", 390)), api.Row{most, most}, api.ErrNumber, nil},  // the sum
		{multi(2, 1, power("9", 390), power("1", 390)), api.Row{-most, -most}, api.ErrNumber, nil},
		{multi(2, 1, power("9", 390), power("-1", 390)), api.Row{most, most}, api.OK, []api.Int{power("8", 399)}},
		{multi(2, 1, power("9", 399), "0"), api.Row{0, most}, api.OK, []api.Int{"0"}},
	} {
		got, e := wedge.Interior(c.x, c.y)
		if e != c.e || !slices.Equal(got.Coordinates, c.want) || e != api.OK && !wedge.Equal(got, none) {
			t.Errorf("%d: Interior = %v, %d, not %d", i, got, e, c.e)
		}
	}
}

// nines returns 9 to the power 10 to the exponent less 1, with so many digits.
func nines(digits int) api.Int {
	n := new(big.Int).Exp(big.NewInt(10), big.NewInt(int64(digits)), nil)
	n.Mul(n, big.NewInt(9)).Quo(n, big.NewInt(10)).Sub(n, big.NewInt(1))
	return api.Int(n.String())
}

// P10.6

// expectLattice checks what is said of the rows whose product with x is 0, by the definition.
func expectLattice(t *testing.T, x wedge.Multi) (decomposable, tooGreat bool) {
	t.Helper()
	v := valueOf(x)
	kernel := kernelOf(v.equations())
	want := len(kernel) == x.Grade || v.isZero()
	if is, e := wedge.Decomposable(x); e != api.OK || is != want {
		t.Errorf("Decomposable(%v) = %t, %d", x, is, e)
	}
	got, e := wedge.Lattice(x)
	tooGreat = slices.ContainsFunc(kernel, func(r []*big.Int) bool { return !isRight(r) })
	wanted := api.OK
	switch {
	case v.isZero():
		wanted = api.ErrZero
	case !want:
		wanted = api.ErrForm
	case tooGreat:
		wanted = api.ErrLimit
	}
	if e != wanted || e == api.OK && !slices.EqualFunc(got, kernel, equal) || e != api.OK && got != nil {
		t.Errorf("Lattice(%v) = %v, %d, not %v, %d", x, got, e, kernel, wanted)
	}
	return want, want && !v.isZero() && tooGreat
}

func TestLattice(t *testing.T) {
	counts := map[string]int{}
	check := func(x wedge.Multi) {
		t.Helper()
		is, tooGreat := expectLattice(t, x)
		if is {
			counts["decomposable"]++
		} else {
			counts["others"]++
		}
		if tooGreat {
			counts["too great"]++
		}
	}
	r := rand.New(rand.NewPCG(10, 6))
	for _, x := range products() {
		check(x)
	}
	for range 300 {
		dimension := 4 + r.IntN(4)
		grade := 2 + r.IntN(dimension-3)
		x := rowProduct(r, dimension, grade, 1+r.IntN(3), []int{1, -1, 2, -30}[r.IntN(4)])
		check(x)
		// one coordinate that is different
		i := r.IntN(len(x.Coordinates))
		x.Coordinates[i] = []api.Int{"0", "1", "-2", "1000000000000"}[r.IntN(4)]
		check(x)
	}
	// all products of the grade 2 with four indices and small coordinates
	for n := range 729 {
		var l []api.Int
		for range 6 {
			l = append(l, []api.Int{"-1", "0", "1"}[n%3])
			n /= 3
		}
		check(multi(4, 2, l...))
	}
	for _, grade := range []int{2, 6, 7, 10} {
		check(rowProduct(r, 12, grade, 2, 3))
		check(anyProduct(r, 12, grade, 12))
	}
	if counts["decomposable"] < 300 || counts["others"] < 300 || counts["too great"] < 20 {
		t.Errorf("only %v", counts)
	}
}

func TestLatticeLimits(t *testing.T) {
	nines := api.Int("999999999")
	for i, c := range []struct {
		x    wedge.Multi
		want api.Matrix
		e    api.Errno
	}{
		{multi(3, 2, "1", "4", "4"), api.Matrix{{1, 0, -4}, {0, 1, 4}}, api.OK},
		{multi(0, 0, "-3"), nil, api.OK},
		{multi(5, 0, "7"), nil, api.OK},
		{multi(2, 2, power("-3", 399)), api.Matrix{{1, 0}, {0, 1}}, api.OK},
		{multi(0, 0, "0"), nil, api.ErrZero},
		{multi(2, 2, "0"), nil, api.ErrZero},
		{multi(4, 2, "0", "0", "0", "0", "0", "0"), nil, api.ErrZero},
		{multi(4, 2, "1", "0", "0", "0", "0", "1"), nil, api.ErrForm},
		{multi(4, 2, "1000000000001", "0", "0", "0", "0", "1"), nil, api.ErrForm},
		{multi(2, 1, "1", "1000000000"), api.Matrix{{1, most}}, api.OK},
		{multi(2, 1, "-1", "1000000000"), api.Matrix{{1, -most}}, api.OK},
		{multi(2, 1, "1", "1000000001"), nil, api.ErrLimit},
		{multi(2, 1, "-1000000001", "1"), nil, api.ErrLimit},
		{multi(2, 1, "1000000001", "1000000001"), api.Matrix{{1, 1}}, api.OK},
		{multi(3, 2, "1", nines, "1000000000"), api.Matrix{{1, 0, -most}, {0, 1, most - 1}}, api.OK},
		{multi(3, 2, "1", nines, "1000000001"), nil, api.ErrLimit},
		{multi(2, 1, power("9", 399), power("6", 399)), api.Matrix{{3, 2}}, api.OK},
		{multi(2, 1, power("9", 399), "1"), nil, api.ErrLimit},
		{multi(12, 1, power("9", 399), "1", "0", "0", "0", "0", "0", "0", "0", "0", "0", "7"), nil, api.ErrLimit},
		{multi(12, 11, power("9", 399), "1", "0", "0", "0", "0", "0", "0", "0", "0", "0", "7"), nil, api.ErrLimit},
		{multi(4, 2, power("9", 399), "0", "0", "0", "0", power("6", 399)), nil, api.ErrForm},
		{multi(4, 2, power("9", 399), power("6", 399), "0", "0", "0", "0"), api.Matrix{{1, 0, 0, 0}, {0, 3, 2, 0}}, api.OK},
		{multi(4, 2, "1", power("9", 399), "0", "0", power("9", 399), "0"), nil, api.ErrNumber},
	} {
		if got, e := wedge.Lattice(c.x); e != c.e || !same(got, c.want) {
			t.Errorf("%d: Lattice = %v, %d", i, got, e)
		}
		want := api.OK
		if c.e == api.ErrNumber {
			want = api.ErrNumber
		}
		if is, e := wedge.Decomposable(c.x); e != want || is != (c.e != api.ErrForm && c.e != api.ErrNumber) {
			t.Errorf("%d: Decomposable = %t, %d", i, is, e)
		}
	}
}

// With numbers of 12 digits there is none on the way that is too long.
func TestTwelveDigits(t *testing.T) {
	for dimension := range 13 {
		for grade := range dimension + 1 {
			x := wedge.Multi{Dimension: dimension, Grade: grade}
			for i := range choose(0, dimension, grade) {
				x.Coordinates = append(x.Coordinates, []api.Int{"999999999999", "-999999999998", "999999999989"}[i*i%3])
			}
			is, e := wedge.Decomposable(x)
			if e != api.OK {
				t.Errorf("Decomposable of %d, %d: %d", dimension, grade, e)
			}
			want := map[bool][]api.Errno{true: {api.OK, api.ErrLimit}, false: {api.ErrForm}}[is]
			if _, e := wedge.Lattice(x); !slices.Contains(want, e) {
				t.Errorf("Lattice of %d, %d: %d", dimension, grade, e)
			}
			if _, e := wedge.Interior(x, slices.Repeat(api.Row{most}, dimension)); e != api.OK && grade > 0 {
				t.Errorf("Interior of %d, %d: %d", dimension, grade, e)
			}
			if _, e := wedge.Product(x, x); e != api.OK && 2*grade <= dimension {
				t.Errorf("Product of %d, %d: %d", dimension, grade, e)
			}
		}
	}
}

// P10.7

func TestConsequences(t *testing.T) {
	must := func(x wedge.Multi, e api.Errno) wedge.Multi {
		t.Helper()
		if e != api.OK {
			t.Fatalf("error %d", e)
		}
		return x
	}
	// times returns a product with the sign -1 to a power.
	times := func(x wedge.Multi, exponent int) wedge.Multi {
		v := valueOf(x)
		for _, n := range v.coordinates {
			n.Mul(n, big.NewInt(int64(1-2*(exponent%2))))
		}
		return v.multi()
	}
	r := rand.New(rand.NewPCG(10, 7))
	for range 200 {
		n := 1 + r.IntN(6)
		j := r.IntN(n + 1)
		k := r.IntN(n - j + 1)
		l := r.IntN(n - j - k + 1)
		a, b, c := anyProduct(r, n, j, 6), anyProduct(r, n, k, 6), anyProduct(r, n, l, 6)
		product := must(wedge.Product(a, b))
		if !wedge.Equal(must(wedge.Product(b, a)), times(product, j*k)) {
			t.Errorf("%v and %v exchanged", a, b)
		}
		if !wedge.Equal(must(wedge.Product(product, c)), must(wedge.Product(a, must(wedge.Product(b, c))))) {
			t.Errorf("%v, %v, %v are not associative", a, b, c)
		}
		if !wedge.Equal(must(wedge.Dual(must(wedge.Dual(a)))), times(a, j*(n-j))) {
			t.Errorf("the dual of the dual of %v", a)
		}
		y := random(r, 1, n, 50)[0]
		if j >= 2 && !valueOf(must(wedge.Interior(must(wedge.Interior(a, y)), y))).isZero() {
			t.Errorf("interior products of %v with %v twice", a, y)
		}
		expectRows(t, random(r, j, n, 2), n)
	}
}

// expectRows checks the consequences for a product of rows.
func expectRows(t *testing.T, m api.Matrix, n int) {
	t.Helper()
	x, e := wedge.Of(m, n)
	y, f := wedge.Unit(n)
	var rows [][]*big.Int
	for _, r := range m {
		one, g := wedge.Of(api.Matrix{r}, n)
		p, h := wedge.Product(y, one)
		if g != api.OK || h != api.OK {
			t.Fatalf("%v: %d, %d", m, g, h)
		}
		y = p
		rows = append(rows, rowValue(r).coordinates)
	}
	if e != api.OK || f != api.OK || !wedge.Equal(x, y) {
		t.Errorf("%v is %v, but one by one %v", m, x, y)
	}
	independent := rank(rows) == len(m)
	if valueOf(x).isZero() == independent {
		t.Errorf("%v has the product %v", m, x)
	}
	if !independent {
		return
	}
	l, e := lattice.Of(n, m)
	saturation, f := lattice.Saturate(l)
	got, g := wedge.Lattice(x)
	if e != api.OK || f != api.OK || g != api.OK || !same(got, saturation.Basis) {
		t.Errorf("%v has the lattice %v, but the saturation %v", m, got, saturation)
	}
	ofBasis, e := wedge.Of(l.Basis, n)
	first, f := wedge.Canonical(x)
	second, g := wedge.Canonical(ofBasis)
	if e != api.OK || f != api.OK || g != api.OK || !wedge.Equal(first, second) {
		t.Errorf("%v and %v have the canonical forms %v and %v", m, l.Basis, first, second)
	}
	back, e := wedge.Of(got, n)
	canonical, f := wedge.Canonical(back)
	content, g := wedge.Content(back)
	if e != api.OK || f != api.OK || g != api.OK || !wedge.Equal(canonical, first) || content != "1" {
		t.Errorf("%v has the product %v", got, back)
	}
}
