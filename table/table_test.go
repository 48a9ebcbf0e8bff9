package table_test

import (
	"math"
	"math/big"
	"math/rand/v2"
	"slices"
	"testing"

	"schisma/api"
	"schisma/table"
)

// P6.1

func TestCheck(t *testing.T) {
	for _, m := range samples() {
		if e := table.Check(m); e != api.OK {
			t.Errorf("Check(%v) = %d", m, e)
		}
	}
	for _, w := range wrongMatrices() {
		if e := table.Check(w.m); e != w.e {
			t.Errorf("Check(%v) = %d, not %d", w.m, e, w.e)
		}
	}
}

func TestEqual(t *testing.T) {
	l := samples()
	for _, w := range wrongMatrices() {
		l = append(l, w.m)
	}
	l = append(l, api.Matrix{{1, 2}, {3, 5}}, api.Matrix{{3, 4}, {1, 2}}, api.Matrix{{1, 2}}, api.Matrix{{1, 2}, {3, 4}, {}}, api.Matrix{{1, 2, 3, 4}}, api.Matrix{{1}, {2}})
	for i, a := range l {
		if !table.Equal(a, deep(a)) {
			t.Errorf("%v is not equal to its copy", a)
		}
		for j, b := range l[i+1:] {
			want := len(a) == len(b)
			for k := range min(len(a), len(b)) {
				want = want && slices.Equal(a[k], b[k])
			}
			if table.Equal(a, b) != want || table.Equal(b, a) != want {
				t.Errorf("%d, %d: Equal(%v, %v) is not %t", i, j, a, b, want)
			}
		}
	}
	if !table.Equal(nil, api.Matrix{}) || !table.Equal(api.Matrix{nil}, api.Matrix{{}}) || table.Equal(nil, api.Matrix{nil}) {
		t.Error("nil and empty lists")
	}
}

func TestColumns(t *testing.T) {
	for _, m := range samples() {
		if n := table.Columns(m); n != columnsOf(m) {
			t.Errorf("Columns(%v) = %d", m, n)
		}
	}
	if a, b, c := table.Columns(api.Matrix{{1, 2}, {1}}), table.Columns(filled(2, 1000, 0)), table.Columns(api.Matrix{nil, {1}}); a != 2 || b != 1000 || c != 0 {
		t.Errorf("Columns of others: %d, %d, %d", a, b, c)
	}
}

// P6.2

func TestIdentity(t *testing.T) {
	for n := range api.MaxColumns + 1 {
		if m, e := table.Identity(n); e != api.OK || !table.Equal(m, diagonal(slices.Repeat([]int{1}, n)...)) {
			t.Errorf("Identity(%d) = %v, %d", n, m, e)
		}
	}
	for _, n := range []int{-1, api.MaxColumns + 1, math.MinInt, math.MaxInt} {
		if m, e := table.Identity(n); e != api.ErrRange || m != nil {
			t.Errorf("Identity(%d) = %v, %d", n, m, e)
		}
	}
}

func TestTranspose(t *testing.T) {
	for _, m := range samples() {
		got, e := table.Transpose(m)
		if e != api.OK || len(got) != columnsOf(m) {
			t.Errorf("Transpose(%v) = %v, %d", m, got, e)
			continue
		}
		for j, r := range got {
			if len(r) != len(m) {
				t.Fatalf("Transpose(%v) = %v", m, got)
			}
			for i, n := range r {
				if n != m[i][j] {
					t.Errorf("Transpose(%v) = %v", m, got)
				}
			}
		}
	}
}

// P6.3

// productOf returns the product, and whether it is right.
func productOf(a, b api.Matrix) (api.Matrix, bool) {
	product := filled(len(a), columnsOf(b), 0)
	for i := range product {
		for j := range product[i] {
			sum := new(big.Int)
			for k, n := range a[i] {
				sum.Add(sum, new(big.Int).Mul(big.NewInt(int64(n)), big.NewInt(int64(b[k][j]))))
			}
			if sum.CmpAbs(big.NewInt(most)) > 0 {
				return nil, false
			}
			product[i][j] = int(sum.Int64())
		}
	}
	return product, true
}

func TestMul(t *testing.T) {
	for _, a := range samples() {
		for _, b := range samples() {
			got, e := table.Mul(a, b)
			if columnsOf(a) != len(b) {
				if e != api.ErrSize || got != nil {
					t.Errorf("Mul(%v, %v) = %v, %d", a, b, got, e)
				}
				continue
			}
			want, right := productOf(a, b)
			if right && (e != api.OK || !table.Equal(got, want)) || !right && (e != api.ErrLimit || got != nil) {
				t.Errorf("Mul(%v, %v) = %v, %d, not %v", a, b, got, e, want)
			}
		}
	}
}

// The first and the last products that have room, and sums that have it though numbers on the way do not.
func TestProducts(t *testing.T) {
	high, low := slices.Repeat([]int{most}, 12), slices.Repeat([]int{-most}, 12)
	half := append(slices.Clone(high[:6]), low[:6]...)
	for i, c := range []struct {
		r, s  api.Row
		n     int
		right bool
	}{
		{api.Row{most}, api.Row{1}, most, true},
		{api.Row{most}, api.Row{-1}, -most, true},
		{api.Row{most, 1}, api.Row{1, 1}, 0, false},
		{api.Row{most, 1}, api.Row{-1, -1}, 0, false},
		{api.Row{most, 1}, api.Row{1, 0}, most, true},
		{api.Row{most}, api.Row{2}, 0, false},
		{api.Row{most, most, most}, api.Row{most, 1, -most}, most, true},
		{high, half, 0, true},
		{high, high, 0, false},
		{high, low, 0, false},
		{append(half[:11:11], -most+1), high, most, true},
		{append(half[:11:11], -most+2), high, 0, false},
	} {
		column := filled(len(c.s), 1, 0)
		for k, n := range c.s {
			column[k][0] = n
		}
		want := api.OK
		if !c.right {
			want = api.ErrLimit
		}
		product, e := table.Mul(api.Matrix{c.r}, column)
		if e != want || c.right && product[0][0] != c.n {
			t.Errorf("%d: Mul = %v, %d", i, product, e)
		}
		sums, e := table.Apply(api.Matrix{c.r}, c.s)
		if e != want || c.right && sums[0] != c.n {
			t.Errorf("%d: Apply = %v, %d", i, sums, e)
		}
	}
}

func TestApply(t *testing.T) {
	r := rand.New(rand.NewPCG(6, 4))
	for _, m := range samples() {
		for _, x := range []api.Row{nil, {1}, slices.Repeat(api.Row{-1}, columnsOf(m)), random(r, 1, columnsOf(m), 30)[0], random(r, 1, columnsOf(m), most)[0]} {
			got, e := table.Apply(m, x)
			if len(x) != columnsOf(m) {
				if e != api.ErrSize || got != nil {
					t.Errorf("Apply(%v, %v) = %v, %d", m, x, got, e)
				}
				continue
			}
			column := filled(len(x), 1, 0)
			for k, n := range x {
				column[k][0] = n
			}
			want, right := filled(len(m), 1, 0), true
			if len(x) > 0 {
				want, right = productOf(m, column)
			}
			if !right && (e != api.ErrLimit || got != nil) || right && (e != api.OK || len(got) != len(m)) {
				t.Errorf("Apply(%v, %v) = %v, %d", m, x, got, e)
				continue
			}
			for i, n := range got {
				if n != want[i][0] {
					t.Errorf("Apply(%v, %v) = %v", m, x, got)
				}
			}
		}
	}
	for i, c := range []struct {
		x    api.Row
		want api.Errno
	}{
		{api.Row{most + 1, 0}, api.ErrLimit},
		{api.Row{0, -most - 1}, api.ErrLimit},
		{api.Row{math.MinInt, 0}, api.ErrLimit},
		{api.Row{0, math.MaxInt}, api.ErrLimit},
		{api.Row{most + 1}, api.ErrSize},
		{api.Row{0, 0, most + 1}, api.ErrSize},
		{make(api.Row, 1000), api.ErrSize},
		{nil, api.ErrSize},
	} {
		if got, e := table.Apply(api.Matrix{{0, 0}, {0, 0}}, c.x); e != c.want || got != nil {
			t.Errorf("%d: Apply = %v, %d", i, got, e)
		}
	}
}

// P6.4

func TestDeterminant(t *testing.T) {
	for _, m := range samples() {
		d, e := table.Determinant(m)
		if len(m) != columnsOf(m) {
			if e != api.ErrSize || d != "" {
				t.Errorf("Determinant(%v) = %s, %d", m, d, e)
			}
			continue
		}
		if e != api.OK || d != determinantOf(m) {
			t.Errorf("Determinant(%v) = %s, %d", m, d, e)
		}
	}
}

func TestRank(t *testing.T) {
	for _, m := range samples() {
		if n, e := table.Rank(m); e != api.OK || n != rankOf(m, columnsOf(m)) {
			t.Errorf("Rank(%v) = %d, %d", m, n, e)
		}
	}
}

func TestMinors(t *testing.T) {
	for _, m := range samples() {
		for k := -1; k <= 13; k++ {
			got, e := table.Minors(m, k)
			var want api.Errno
			switch {
			case k < 0 || k > len(m) || k > columnsOf(m):
				want = api.ErrRange
			case len(choose(0, len(m), k))*len(choose(0, columnsOf(m), k)) > table.MaxMinors:
				want = api.ErrLimit
			}
			if e != want || want != api.OK && got != nil || want == api.OK && !slices.Equal(got, minorsOf(m, k)) {
				t.Errorf("Minors(%v, %d) = %v, %d", m, k, got, e)
			}
		}
	}
}

// No numbers of rows and columns have as many minors as are allowed: 990 is the last number below, and 1008 the first one above.
func TestManyMinors(t *testing.T) {
	for i, c := range []struct {
		rows, columns, k, count int
		want                    api.Errno
	}{
		{12, 12, 0, 1, api.OK}, {12, 12, 1, 144, api.OK}, {12, 12, 2, 0, api.ErrLimit}, {12, 12, 6, 0, api.ErrLimit}, {12, 12, 10, 0, api.ErrLimit}, {12, 12, 11, 144, api.OK}, {12, 12, 12, 1, api.OK},
		{6, 12, 6, 924, api.OK}, {12, 6, 6, 924, api.OK}, {11, 10, 9, 550, api.OK}, {12, 6, 2, 990, api.OK}, {10, 7, 2, 945, api.OK}, {8, 9, 2, 0, api.ErrLimit}, {9, 8, 2, 0, api.ErrLimit}, {12, 2, 0, 1, api.OK},
		{12, 12, 13, 0, api.ErrRange}, {12, 12, -1, 0, api.ErrRange}, {12, 5, 6, 0, api.ErrRange}, {5, 12, 6, 0, api.ErrRange}, {12, 12, math.MinInt, 0, api.ErrRange}, {12, 12, math.MaxInt, 0, api.ErrRange},
	} {
		got, e := table.Minors(filled(c.rows, c.columns, most), c.k)
		if e != c.want || len(got) != c.count {
			t.Errorf("%d: %d Minors, %d", i, len(got), e)
		}
	}
	if got, e := table.Minors(nil, 0); e != api.OK || !slices.Equal(got, []api.Int{"1"}) {
		t.Errorf("Minors of nothing = %v, %d", got, e)
	}
}

// P6.5

func TestInverse(t *testing.T) {
	for _, m := range samples() {
		got, e := table.Inverse(m)
		var want api.Errno
		switch {
		case len(m) != columnsOf(m):
			want = api.ErrSize
		case determinantOf(m) == "0":
			want = api.ErrDependent
		}
		if e != want || want != api.OK && got != nil || want == api.OK && len(got) != len(m) {
			t.Errorf("Inverse(%v) = %v, %d", m, got, e)
			continue
		}
		if want == api.OK {
			expectInverse(t, m, got)
		}
	}
}

// expectInverse checks that the product of a matrix with a list of rows is the identity.
func expectInverse(t *testing.T, m api.Matrix, inverse [][]api.Rational) {
	t.Helper()
	for i, r := range m {
		for j := range m {
			sum, want := new(big.Rat), new(big.Rat)
			if i == j {
				want.SetInt64(1)
			}
			for k, n := range r {
				x, right := rational(inverse[k][j])
				if !right || len(inverse[k]) != len(m) {
					t.Fatalf("Inverse(%v): %v", m, inverse[k])
				}
				sum.Add(sum, x.Mul(x, big.NewRat(int64(n), 1)))
			}
			if sum.Cmp(want) != 0 {
				t.Errorf("Inverse(%v) = %v", m, inverse)
			}
		}
	}
}

func TestSolve(t *testing.T) {
	r := rand.New(rand.NewPCG(6, 5))
	kinds := map[int]int{}
	for _, m := range samples() {
		zeros := make(api.Row, len(m))
		rights := []api.Row{zeros, random(r, 1, len(m), 2)[0], random(r, 1, len(m), most)[0]}
		if sums, e := table.Apply(m, random(r, 1, columnsOf(m), 3)[0]); e == api.OK {
			rights = append(rights, sums)
		}
		for _, right := range rights {
			x, kind, e := table.Solve(m, right)
			if e != api.OK {
				t.Errorf("Solve(%v, %v): %d", m, right, e)
			}
			expectSolution(t, m, right, x, kind)
			kinds[kind]++
		}
	}
	if kinds[table.One] < 20 || kinds[table.Many] < 20 || kinds[table.None] < 20 {
		t.Errorf("the samples are one-sided: %v", kinds)
	}
}

// expectSolution checks the kind of a system, and its first solution, by the definitions.
func expectSolution(t *testing.T, m api.Matrix, right api.Row, x []api.Rational, kind int) {
	t.Helper()
	columns := columnsOf(m)
	rank, both := rankOf(m, columns), rankOf(with(m, right), columns+1)
	want := table.Many
	switch {
	case both > rank:
		want = table.None
	case rank == columns:
		want = table.One
	}
	if kind != want || kind == table.None && x != nil || kind != table.None && len(x) != columns {
		t.Errorf("Solve(%v, %v) = %v, %d", m, right, x, kind)
		return
	}
	if kind == table.None {
		return
	}
	for i, r := range m {
		sum := new(big.Rat)
		for j, n := range r {
			a, ok := rational(x[j])
			if !ok {
				t.Fatalf("Solve(%v, %v) = %v", m, right, x)
			}
			sum.Add(sum, a.Mul(a, big.NewRat(int64(n), 1)))
		}
		if sum.Cmp(big.NewRat(int64(right[i]), 1)) != 0 {
			t.Errorf("Solve(%v, %v) = %v", m, right, x)
		}
	}
	for j := range columns {
		if rankOf(m, j) == rankOf(m, j+1) && (x[j] != api.Rational{Num: "0", Den: "1"}) {
			t.Errorf("Solve(%v, %v) = %v: not the first solution", m, right, x)
		}
	}
}

func TestConstants(t *testing.T) {
	if table.One != 1 || table.Many != 2 || table.None != 3 || table.MaxMinors != 1000 {
		t.Error("wrong constants")
	}
}

func TestSolveErrors(t *testing.T) {
	for i, c := range []struct {
		m     api.Matrix
		right api.Row
		want  api.Errno
	}{
		{nil, api.Row{0}, api.ErrSize},
		{nil, make(api.Row, 1000), api.ErrSize},
		{api.Matrix{{1, 2}}, nil, api.ErrSize},
		{api.Matrix{{1, 2}}, api.Row{1, 2}, api.ErrSize},
		{api.Matrix{{1, 2}}, api.Row{most + 1, 2}, api.ErrSize},
		{api.Matrix{{1, 2}}, api.Row{most + 1}, api.ErrLimit},
		{api.Matrix{{1, 2}}, api.Row{-most - 1}, api.ErrLimit},
		{api.Matrix{{0}, {0}}, api.Row{1, math.MinInt}, api.ErrLimit},
		{api.Matrix{{0}, {0}}, api.Row{math.MaxInt, 1}, api.ErrLimit},
		{api.Matrix{{1}, {1, 2}}, nil, api.ErrSize},
		{api.Matrix{{most + 1}}, nil, api.ErrLimit},
	} {
		if x, kind, e := table.Solve(c.m, c.right); e != c.want || x != nil || kind != 0 {
			t.Errorf("%d: Solve = %v, %d, %d", i, x, kind, e)
		}
	}
	if x, kind, e := table.Solve(api.Matrix{{most}}, api.Row{-most}); e != api.OK || kind != table.One || !slices.Equal(x, []api.Rational{{Num: "-1", Den: "1"}}) {
		t.Errorf("Solve = %v, %d, %d", x, kind, e)
	}
	if x, kind, e := table.Solve(api.Matrix{{}, {}}, api.Row{0, 1}); e != api.OK || kind != table.None || x != nil {
		t.Errorf("Solve = %v, %d, %d", x, kind, e)
	}
	if x, kind, e := table.Solve(api.Matrix{{}, {}}, api.Row{0, 0}); e != api.OK || kind != table.One || len(x) != 0 {
		t.Errorf("Solve = %v, %d, %d", x, kind, e)
	}
}

// P6.6

func TestConsequences(t *testing.T) {
	r := rand.New(rand.NewPCG(6, 6))
	for n := range 5 {
		for range 10 {
			a, b := random(r, n, n, 5), random(r, n, n, 5)
			product, _ := table.Mul(a, b)
			transposed, _ := table.Transpose(a)
			d, _ := table.Determinant(a)
			f, _ := table.Determinant(b)
			both, _ := table.Determinant(product)
			turned, _ := table.Determinant(transposed)
			x, _ := new(big.Int).SetString(string(d), 10)
			y, _ := new(big.Int).SetString(string(f), 10)
			if both != api.Int(x.Mul(x, y).String()) || turned != d {
				t.Errorf("determinants of %v and %v: %s, %s, %s, %s", a, b, d, f, both, turned)
			}
			if l, e := table.Minors(a, n); e != api.OK || !slices.Equal(l, []api.Int{d}) {
				t.Errorf("Minors(%v, %d) = %v, %d", a, n, l, e)
			}
			if n > 1 {
				a[0], a[1] = a[1], a[0]
				exchanged, _ := table.Determinant(a)
				if z, _ := new(big.Int).SetString(string(exchanged), 10); z.Neg(z).String() != string(d) {
					t.Errorf("Determinant(%v) = %s", a, exchanged)
				}
			}
		}
	}
	for _, m := range samples() {
		transposed, _ := table.Transpose(m)
		a, _ := table.Rank(m)
		if b, e := table.Rank(transposed); e != api.OK || a != b {
			t.Errorf("Rank(%v) = %d, %d, %d", m, a, b, e)
		}
	}
}

// P1: the error of a matrix is returned first, with zero values.

func TestWrongMatrices(t *testing.T) {
	right := api.Matrix{{1, 2}}
	for i, w := range wrongMatrices() {
		a, e1 := table.Transpose(w.m)
		b, e2 := table.Mul(w.m, right)
		c, e3 := table.Mul(api.Matrix{{1}, {2}}, w.m)
		d, e4 := table.Apply(w.m, api.Row{most + 1, 1, 1, 1})
		f, e5 := table.Determinant(w.m)
		g, e6 := table.Rank(w.m)
		h, e7 := table.Minors(w.m, -1)
		j, e8 := table.Inverse(w.m)
		k, kind, e9 := table.Solve(w.m, api.Row{most + 1})
		if a != nil || b != nil || c != nil || d != nil || f != "" || g != 0 || h != nil || j != nil || k != nil || kind != 0 {
			t.Errorf("%d: no zero values", i)
		}
		for k, e := range []api.Errno{e1, e2, e3, e4, e5, e6, e7, e8, e9} {
			if e != w.e {
				t.Errorf("%d, %d: %d, not %d", i, k, e, w.e)
			}
		}
	}
	if _, e := table.Mul(api.Matrix{{1}, {1, 2}}, api.Matrix{{most + 1}}); e != api.ErrSize {
		t.Errorf("Mul: %d", e)
	}
	if _, e := table.Mul(api.Matrix{{most + 1}}, api.Matrix{{1}, {1, 2}}); e != api.ErrLimit {
		t.Errorf("Mul: %d", e)
	}
	if _, e := table.Mul(api.Matrix{{1, 2}}, api.Matrix{{1, most + 1}}); e != api.ErrLimit {
		t.Errorf("Mul: %d", e)
	}
}

// Arguments stay what they are, and results are new memory.
func TestMemory(t *testing.T) {
	for _, m := range samples() {
		before := deep(m)
		x := slices.Repeat(api.Row{1}, columnsOf(m))
		right := slices.Repeat(api.Row{1}, len(m))
		transposed, _ := table.Transpose(m)
		for _, r := range transposed {
			clear(r)
		}
		n, _ := table.Identity(columnsOf(m))
		product, _ := table.Mul(m, n)
		for _, r := range product {
			clear(r)
		}
		sums, _ := table.Apply(m, x)
		clear(sums)
		table.Determinant(m)
		table.Rank(m)
		table.Minors(m, 1)
		table.Inverse(m)
		table.Solve(m, right)
		if !table.Equal(m, before) || slices.Contains(x, 0) || slices.Contains(right, 0) {
			t.Errorf("%v was changed to %v", before, m)
		}
	}
	m, _ := table.Identity(3)
	m[0][0] = 5
	if again, _ := table.Identity(3); again[0][0] != 1 {
		t.Error("Identity is shared")
	}
}
