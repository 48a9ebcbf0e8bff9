package smith_test

import (
	"math"
	"math/big"
	"math/rand/v2"
	"slices"
	"testing"

	"schisma/api"
	"schisma/hermite"
	"schisma/smith"
	"schisma/table"
)

// P8.1

func TestFactors(t *testing.T) {
	tooGreat := 0
	for _, m := range samples() {
		if len(m)*columnsOf(m) > 60 {
			continue // too many minors
		}
		want := factorsOf(m)
		l, e := smith.Factors(m)
		form, f := smith.Form(m)
		if !isRight(want) {
			tooGreat++
			if e != api.ErrLimit || f != api.ErrLimit || l != nil || form != nil {
				t.Errorf("%v: Factors = %v, %d; Form = %v, %d", m, l, e, form, f)
			}
			continue
		}
		if e != api.OK || !equal(l, want) {
			t.Errorf("Factors(%v) = %v, %d, not %v", m, l, e, want)
		}
		if f != api.OK || !same(form, smithForm(len(m), columnsOf(m), l)) {
			t.Errorf("Form(%v) = %v, %d", m, form, f)
		}
	}
	if tooGreat < 4 {
		t.Errorf("only %d factors are too great", tooGreat)
	}
}

// smithForm returns a matrix with some factors in its diagonal.
func smithForm(rows, columns int, l api.Row) api.Matrix {
	m := filled(rows, columns, 0)
	for i, n := range l {
		m[i][i] = n
	}
	return m
}

// Of great matrices the factors are known because they were made from them.
func TestKnownFactors(t *testing.T) {
	r := rand.New(rand.NewPCG(8, 2))
	for _, c := range []struct {
		rows, columns int
		l             api.Row
	}{
		{12, 12, api.Row{1, 1, 1, 2, 2, 2, 6, 6, 12, 60, 60, 120}}, {12, 12, slices.Repeat(api.Row{1}, 12)}, {12, 12, slices.Repeat(api.Row{7}, 12)}, {12, 12, api.Row{1, 1, 1, 1, 1, 1, 1, 1, 1, 1, 1, 100_000}},
		{12, 12, api.Row{2, 4, 8}}, {12, 5, api.Row{1, 3, 3, 9, 27}}, {5, 12, api.Row{1, 3, 3, 9, 27}}, {12, 12, nil}, {6, 6, api.Row{5, 5, 5, 10, 10, 100_000}}, {1, 12, api.Row{5000}}, {12, 1, api.Row{5000}},
	} {
		for range 3 {
			m := product(product(unimodular(r, c.rows), smithForm(c.rows, c.columns, c.l)), unimodular(r, c.columns))
			if l, e := smith.Factors(m); e != api.OK || !slices.Equal(l, c.l) {
				t.Errorf("Factors(%v) = %v, %d, not %v", m, l, e, c.l)
			}
			if form, e := smith.Form(m); e != api.OK || !same(form, smithForm(c.rows, c.columns, c.l)) {
				t.Errorf("Form(%v) = %v, %d", m, form, e)
			}
		}
	}
	for i, c := range []struct {
		m api.Matrix
		l api.Row
	}{
		{filled(12, 12, -most), api.Row{most}},
		{diagonal(slices.Repeat([]int{-most}, 12)...), slices.Repeat(api.Row{most}, 12)},
		{diagonal(7, 142_857_143), nil}, // 1000000001
		{diagonal(8, 125_000_000, 1), api.Row{1, 8, 125_000_000}},
		{diagonal(512, 1_953_125), api.Row{1, most}},
		{diagonal(most, most-1, most-2, most-3, most-4, most-5, most-6, most-7, most-8, most-9, most-10, most-11), nil},
		{random(r, 12, 12, most), nil},
	} {
		want := api.OK
		if c.l == nil {
			want = api.ErrLimit
		}
		if l, e := smith.Factors(c.m); e != want || !slices.Equal(l, c.l) {
			t.Errorf("%d: Factors = %v, %d", i, l, e)
		}
	}
}

// P8.2

// isTransform reports whether the product of three matrices is the Smith form with the factors, and the outer ones are unimodular.
func isTransform(m, left, right api.Matrix, l []*big.Int) bool {
	if !isUnimodular(left, len(m)) || !isUnimodular(right, columnsOf(m)) {
		return false
	}
	for i := range m {
		for j := range columnsOf(m) {
			sum := new(big.Int)
			for k, r := range m {
				part := new(big.Int)
				for n, a := range r {
					part.Add(part, new(big.Int).Mul(big.NewInt(int64(a)), big.NewInt(int64(right[n][j]))))
				}
				sum.Add(sum, part.Mul(part, big.NewInt(int64(left[i][k]))))
			}
			want := new(big.Int)
			if i == j && i < len(l) {
				want = l[i]
			}
			if sum.Cmp(want) != 0 {
				return false
			}
		}
	}
	return true
}

// isUnimodular reports whether a matrix has so many rows and columns, and a determinant of 1 or -1.
func isUnimodular(m api.Matrix, n int) bool {
	if len(m) != n || columnsOf(m) != n {
		return false
	}
	d, e := table.Determinant(m)
	return e == api.OK && (d == "1" || d == "-1")
}

func TestTransform(t *testing.T) {
	found := 0
	for _, m := range samples() {
		l, wrong := smith.Factors(m)
		left, right, e := smith.Transform(m)
		if e == api.ErrLimit && left == nil && right == nil && (wrong == api.ErrLimit || !isTame(m)) {
			continue
		}
		found++
		if e != api.OK || wrong != api.OK || !isTransform(m, left, right, bigRow(l)) {
			t.Errorf("Transform(%v) = %v, %v, %d", m, left, right, e)
		}
		if e := smith.Verify(m, left, right); e != api.OK {
			t.Errorf("Verify(%v, %v, %v) = %d", m, left, right, e)
		}
	}
	if found < 100 {
		t.Errorf("only %d transforms were found", found)
	}
}

// Pairs of parallel columns: no small multiple of one of them makes the other one what they have in common.
func TestParallelColumns(t *testing.T) {
	l := []api.Matrix{
		{{6, 10, 0}, {0, 0, 15}}, {{0, 0, 10}, {6, 15, 0}}, {{0, 0, 15}, {0, 0, 0}, {6, 10, 0}}, {{15, 0, 6, 10}, {0, 0, 0, 10}, {10, 2, 0, 2}},
		{{0, 0, 0, 10}, {0, 6, 0, 0}, {0, 0, 0, 6}, {6, 0, 15, 0}}, {{6, 10, 0, 0, 0, 0}, {0, 0, 15, 21, 0, 0}, {0, 0, 0, 0, 35, 14}},
	}
	r := rand.New(rand.NewPCG(8, 7))
	for range 300 {
		rows := 2 + r.IntN(3)
		m := filled(rows, 2*rows, 0)
		for i := range m {
			m[i][2*i], m[i][2*i+1] = 1+r.IntN(40), 1+r.IntN(40)
		}
		r.Shuffle(rows, func(i, j int) { m[i], m[j] = m[j], m[i] })
		l = append(l, m)
	}
	for _, m := range l {
		left, right, e := smith.Transform(m)
		if e != api.OK || !isTransform(m, left, right, factorsOf(m)) {
			t.Errorf("Transform(%v) = %v, %v, %d", m, left, right, e)
		}
	}
}

// isTame reports whether transforms have to be found.
func isTame(m api.Matrix) bool {
	for _, r := range m {
		for _, n := range r {
			if n < -9 || n > 9 {
				return false
			}
		}
	}
	return len(m) <= 3 && columnsOf(m) <= 3
}

// Of matrices with at most 3 rows and 3 columns whose elements are from -9 to 9 transforms are always found, also of those with the greatest determinants and of dependent rows. All are far below the limit, so that those that are not tried are not beyond it either.
func TestTame(t *testing.T) {
	l := []api.Matrix{
		{{9, 9, 9}, {9, -9, 9}, {9, 9, -9}}, {{9, 9, -9}, {-9, 9, 9}, {9, -1, 8}}, {{4, -8, 9}, {-6, 9, 9}, {-8, -8, -8}}, {{9, -8, -9}, {9, 4, -9}, {9, -8, 8}},
		{{-8, 8, -9}, {9, 9, 5}, {-9, 9, 7}}, {{9, 9, -9}, {9, -9, 2}, {-9, -5, -9}}, {{6, 0, 0}, {0, 4, 0}, {0, 0, 9}}, {{9, 0, 0}, {0, 8, 0}, {0, 0, 7}}, filled(3, 3, 9), filled(3, 0, 0),
	}
	r := rand.New(rand.NewPCG(8, 3))
	for range 20_000 {
		bound := []int{1, 3, 9, 9}[r.IntN(4)]
		m := random(r, 1+r.IntN(3), 1+r.IntN(3), bound)
		if r.IntN(4) == 0 {
			m[len(m)-1] = slices.Clone(m[0])
		}
		l = append(l, m)
	}
	for _, m := range l {
		left, right, e := smith.Transform(m)
		if e != api.OK || !isTransform(m, left, right, factorsOf(m)) {
			t.Errorf("Transform(%v) = %v, %v, %d", m, left, right, e)
		}
		for _, x := range slices.Concat(left, right) {
			if slices.Max(x) > 20_000 || slices.Min(x) < -20_000 {
				t.Errorf("Transform(%v) = %v, %v: too great", m, left, right)
			}
		}
	}
}

func TestTransformLimits(t *testing.T) {
	for i, m := range []api.Matrix{
		diagonal(7, 142_857_143), // the factor is too great, but there are transforms that are not
		{{most, 1}, {0, most}},
		diagonal(most, most-1, most-2, most-3, most-4, most-5, most-6, most-7, most-8, most-9, most-10, most-11),
	} {
		if left, right, e := smith.Transform(m); e != api.ErrLimit || left != nil || right != nil {
			t.Errorf("%d: Transform = %v, %v, %d", i, left, right, e)
		}
	}
	if left, right, e := smith.Transform(api.Matrix{{-most}}); e != api.OK || !isTransform(api.Matrix{{-most}}, left, right, bigRow(api.Row{most})) {
		t.Errorf("Transform = %v, %v, %d", left, right, e)
	}
	// the inverse, which is the product of both transforms in the other order, has elements with 99 digits
	steep := diagonal(slices.Repeat([]int{1}, 12)...)
	for i := range 11 {
		steep[i][i+1] = most
	}
	for _, m := range []api.Matrix{steep, {{1, most, 0, 0}, {0, 1, most, 0}, {0, 0, 1, most}, {0, 0, 0, 1}}} {
		left, right, e := smith.Transform(m)
		if e != api.ErrLimit || left != nil || right != nil {
			t.Errorf("Transform(%v) = %v, %v, %d", m, left, right, e)
		}
	}
}

func TestVerify(t *testing.T) {
	one, two := api.Matrix{{1}}, diagonal(1, 1)
	m := api.Matrix{{2, 4}, {6, 8}}
	left, right := api.Matrix{{1, 0}, {3, -1}}, api.Matrix{{1, -2}, {0, 1}}
	for i, c := range []struct {
		m, left, right api.Matrix
		want           api.Errno
	}{
		{m, left, right, api.OK},
		{nil, nil, nil, api.OK},
		{api.Matrix{{}, {}}, api.Matrix{{3, 1}, {2, 1}}, nil, api.OK},
		{api.Matrix{{}, {}}, api.Matrix{{3, 1}, {3, 1}}, nil, api.ErrCertificate},
		{api.Matrix{{0}}, one, api.Matrix{{-1}}, api.OK},
		{api.Matrix{{0}}, one, api.Matrix{{2}}, api.ErrCertificate},
		{api.Matrix{{0}}, api.Matrix{{0}}, one, api.ErrCertificate},
		{api.Matrix{{5}}, api.Matrix{{-1}}, api.Matrix{{-1}}, api.OK},
		{api.Matrix{{5}}, api.Matrix{{-1}}, one, api.ErrCertificate}, // -5
		{api.Matrix{{1, 2}}, one, two, api.ErrCertificate},
		{api.Matrix{{1, 2}}, one, api.Matrix{{1, -2}, {0, 1}}, api.OK},
		{api.Matrix{{1}, {2}}, two, one, api.ErrCertificate},
		{api.Matrix{{1}, {2}}, api.Matrix{{1, 0}, {-2, 1}}, one, api.OK},
		{diagonal(2, 4), two, two, api.OK},
		{diagonal(4, 2), two, two, api.ErrCertificate},
		{diagonal(2, 3), two, two, api.ErrCertificate},
		{diagonal(2, -4), two, two, api.ErrCertificate},
		{diagonal(-2, 4), two, two, api.ErrCertificate},
		{diagonal(2, 0), two, two, api.OK},
		{diagonal(0, 2), two, two, api.ErrCertificate},
		{diagonal(0, 0), two, two, api.OK},
		{diagonal(0, 0, 0), diagonal(1, 1, 1), diagonal(1, 1, 1), api.OK},
		{diagonal(3, 0, 3), diagonal(1, 1, 1), diagonal(1, 1, 1), api.ErrCertificate},
		{diagonal(2, 2, 6), diagonal(1, 1, 1), diagonal(1, 1, 1), api.OK},
		{diagonal(2, 6, 9), diagonal(1, 1, 1), diagonal(1, 1, 1), api.ErrCertificate},
		{api.Matrix{{0, 2}, {2, 0}}, two, two, api.ErrCertificate},
		{api.Matrix{{0, 2}, {2, 0}}, two, api.Matrix{{0, 1}, {1, 0}}, api.OK},
		{api.Matrix{{2, 0}, {1, 2}}, two, two, api.ErrCertificate},
		{api.Matrix{{2, 1}, {0, 2}}, two, two, api.ErrCertificate},
		{api.Matrix{{2, 0, 0}, {0, 2, 1}}, two, diagonal(1, 1, 1), api.ErrCertificate},
		{api.Matrix{{2, 0}, {0, 2}, {0, 1}}, diagonal(1, 1, 1), two, api.ErrCertificate},
		{api.Matrix{{2, 0}, {0, 2}, {0, 0}, {2, 0}}, diagonal(1, 1, 1, 1), two, api.ErrCertificate},
		{m, right, left, api.ErrCertificate},
		{m, api.Matrix{{1, 0}, {3, 1}}, right, api.ErrCertificate},
		{diagonal(1, 1), diagonal(2, 2), two, api.ErrCertificate}, // the products are Smith forms, but of other matrices
		{diagonal(1, 1), two, diagonal(3, 3), api.ErrCertificate},
		{diagonal(most, most), diagonal(most, most), diagonal(most, most), api.ErrCertificate},
		{api.Matrix{{1, most}, {0, 1}}, api.Matrix{{1, 0}, {most, 1}}, api.Matrix{{1, -most}, {0, 1}}, api.ErrCertificate},
		{api.Matrix{{2, most}, {0, 2}}, api.Matrix{{1, 0}, {-1, 1}}, two, api.ErrCertificate},
		// the product of the first two has an element that is too great, and then a factor is
		{diagonal(most, most), api.Matrix{{1, most}, {0, 1}}, api.Matrix{{1, -most}, {0, 1}}, api.OK},
		{api.Matrix{{2, 1}, {1, 500_000_001}}, api.Matrix{{0, 1}, {1, -2}}, api.Matrix{{1, 500_000_001}, {0, -1}}, api.OK},
		{m, nil, right, api.ErrSize},
		{m, left, nil, api.ErrSize},
		{m, one, right, api.ErrSize},
		{m, left, one, api.ErrSize},
		{m, diagonal(1, 1, 1), right, api.ErrSize},
		{m, left, diagonal(1, 1, 1), api.ErrSize},
		{m, api.Matrix{{1, 0}}, right, api.ErrSize},
		{m, left, api.Matrix{{1}, {0}}, api.ErrSize},
		{m, api.Matrix{{1}, {0}}, right, api.ErrSize},
		{m, left, api.Matrix{{1, 0}}, api.ErrSize},
		{api.Matrix{{1, 2}}, two, two, api.ErrSize},
		{api.Matrix{{1, 2}}, one, one, api.ErrSize},
		{nil, one, nil, api.ErrSize},
		{nil, nil, one, api.ErrSize},
		{api.Matrix{{}, {}}, nil, nil, api.ErrSize},
		{api.Matrix{{}, {}}, two, two, api.ErrSize},
		{api.Matrix{{most + 1}}, api.Matrix{{1}, {1, 2}}, nil, api.ErrLimit},
		{m, api.Matrix{{1}, {1, 2}}, api.Matrix{{most + 1}}, api.ErrSize},
		{m, api.Matrix{{most + 1}}, api.Matrix{{1}, {1, 2}}, api.ErrLimit},
		{m, nil, api.Matrix{{most + 1}}, api.ErrLimit},
	} {
		if e := smith.Verify(c.m, c.left, c.right); e != c.want {
			t.Errorf("%d: Verify = %d, not %d", i, e, c.want)
		}
	}
	for i, w := range wrongMatrices() {
		a, b, c := smith.Verify(w.m, api.Matrix{{1}, {1, most + 1}}, nil), smith.Verify(one, w.m, nil), smith.Verify(one, one, w.m)
		if a != w.e || b != w.e || c != w.e {
			t.Errorf("%d: Verify = %d, %d, %d, not %d", i, a, b, c, w.e)
		}
	}
}

// P8.3

func TestKernel(t *testing.T) {
	tooGreat := 0
	for _, m := range samples() {
		got, e := smith.Kernel(m)
		var want api.Matrix
		right := true
		for _, r := range extended(m) {
			if pivotOf(r) < columnsOf(m) {
				continue
			}
			right = right && isRight(r)
			next := api.Row{}
			for _, n := range r[columnsOf(m):] {
				next = append(next, int(n.Int64()))
			}
			want = append(want, next)
		}
		if !right {
			tooGreat++
		}
		if !right && (e != api.ErrLimit || got != nil) || right && (e != api.OK || !same(got, want)) {
			t.Errorf("Kernel(%v) = %v, %d, not %v", m, got, e, want)
		}
		if is, e := hermite.IsForm(got); e != api.OK || !is {
			t.Errorf("Kernel(%v) = %v", m, got)
		}
	}
	if tooGreat < 2 {
		t.Errorf("only %d kernels are too great", tooGreat)
	}
	for i, c := range []struct{ m, kernel api.Matrix }{
		{api.Matrix{{1, 2}, {2, 4}, {3, 6}}, api.Matrix{{1, 1, -1}, {0, 3, -2}}},
		{api.Matrix{{0, 0}}, api.Matrix{{1}}},
		{api.Matrix{{}, {}}, diagonal(1, 1)},
		{filled(12, 12, 0), diagonal(slices.Repeat([]int{1}, 12)...)},
		{api.Matrix{{most, 0}, {0, 1}, {1, 1}}, api.Matrix{{1, most, -most}}},
		{api.Matrix{{7, 0}, {0, 142_857_143}, {1, 1}}, nil}, // 142857143, 7, -1000000001
		{api.Matrix{{most, 1}, {1, most}, {7, 5}}, nil},
		{api.Matrix{{2, 1, 0}, {1, 500_000_001, 0}, {0, 0, 1}, {0, 0, 3}}, api.Matrix{{0, 0, 3, -1}}}, // whatever the form of the rows is
	} {
		got, e := smith.Kernel(c.m)
		if c.kernel == nil && (e != api.ErrLimit || got != nil) || c.kernel != nil && (e != api.OK || !same(got, c.kernel)) {
			t.Errorf("%d: Kernel = %v, %d", i, got, e)
		}
	}
}

// expectSolution checks multiples whose combination is a row.
func expectSolution(t *testing.T, m api.Matrix, b api.Row) (found bool) {
	t.Helper()
	x := bigRow(b)
	for _, n := range x {
		n.Neg(n)
	}
	rest := reduced(extended(m), append(x, bigRow(make(api.Row, len(m)))...))
	multiples, found, e := smith.Solve(m, b)
	switch {
	case pivotOf(rest[:len(b)]) >= 0 && (e != api.OK || found || multiples != nil),
		pivotOf(rest[:len(b)]) < 0 && !isRight(rest[len(b):]) && (e != api.ErrLimit || found || multiples != nil),
		pivotOf(rest[:len(b)]) < 0 && isRight(rest[len(b):]) && (e != api.OK || !found || !equal(multiples, rest[len(b):])):
		t.Errorf("Solve(%v, %v) = %v, %t, %d, not %v", m, b, multiples, found, e, rest)
	}
	if !found {
		return false
	}
	for j, n := range b {
		sum := new(big.Int)
		for i, r := range m {
			sum.Add(sum, new(big.Int).Mul(big.NewInt(int64(r[j])), big.NewInt(int64(multiples[i]))))
		}
		if sum.Cmp(big.NewInt(int64(n))) != 0 {
			t.Errorf("Solve(%v, %v) = %v", m, b, multiples)
		}
	}
	if kernel, e := smith.Kernel(m); e == api.OK {
		if rest, _, e := hermite.Reduce(kernel, multiples); e != api.OK || !slices.Equal(rest, multiples) {
			t.Errorf("Solve(%v, %v) = %v: not reduced", m, b, multiples)
		}
	}
	return true
}

func TestSolve(t *testing.T) {
	r := rand.New(rand.NewPCG(8, 4))
	counts := map[bool]int{}
	for _, m := range samples() {
		l := append(random(r, 2, columnsOf(m), 3), random(r, 1, columnsOf(m), most)[0], make(api.Row, columnsOf(m)))
		for _, x := range random(r, 3, len(m), 2) {
			if b := product(api.Matrix{x}, m); len(m) > 0 && isRight(bigRow(b[0])) {
				l = append(l, b[0])
			}
		}
		for _, b := range l {
			counts[expectSolution(t, m, b)]++
		}
	}
	if counts[true] < 100 || counts[false] < 100 {
		t.Errorf("the samples are one-sided: %v", counts)
	}
	for _, b := range []api.Row{nil, {0}, {0, 0, 0}, make(api.Row, api.MaxRow)} {
		if multiples, found, e := smith.Solve(nil, b); e != api.OK || !found || len(multiples) != 0 {
			t.Errorf("Solve(nil, %v) = %v, %t, %d", b, multiples, found, e)
		}
	}
	for _, b := range []api.Row{{1}, {0, 0, -most}, slices.Repeat(api.Row{most}, api.MaxRow)} {
		if multiples, found, e := smith.Solve(nil, b); e != api.OK || found || multiples != nil {
			t.Errorf("Solve(nil, %v) = %v, %t, %d", b, multiples, found, e)
		}
	}
}

func TestSolveExamples(t *testing.T) {
	for i, c := range []struct {
		m    api.Matrix
		b, x api.Row
		want api.Errno
	}{
		{diagonal(2, 3), api.Row{4, 9}, api.Row{2, 3}, api.OK},
		{diagonal(2, 3), api.Row{1, 0}, nil, api.OK},
		{api.Matrix{{6}, {10}, {15}}, api.Row{1}, api.Row{1, 1, -1}, api.OK},
		{api.Matrix{{1}}, api.Row{most}, api.Row{most}, api.OK},
		{api.Matrix{{-1}}, api.Row{most}, api.Row{-most}, api.OK},
		{api.Matrix{{}, {}}, nil, api.Row{0, 0}, api.OK},
		{filled(12, 12, 0), make(api.Row, 12), make(api.Row, 12), api.OK},
		{api.Matrix{{1, 40_000, 0}, {0, 1, 25_000}, {0, 0, 1}}, api.Row{1, 0, 0}, api.Row{1, -40_000, most}, api.OK},
		{api.Matrix{{1, 40_000, 0}, {0, 1, 25_000}, {0, 0, 1}}, api.Row{1, 0, 1}, nil, api.ErrLimit},
		{api.Matrix{{1, 40_000, 0}, {0, 1, 25_000}, {0, 0, 1}}, api.Row{-1, 0, -1}, nil, api.ErrLimit},
		{filled(12, 1, 1), api.Row{most}, append(make(api.Row, 11), most), api.OK},
	} {
		expectSolution(t, c.m, c.b)
		if x, found, e := smith.Solve(c.m, c.b); e != c.want || found != (c.x != nil) || !slices.Equal(x, c.x) {
			t.Errorf("%d: Solve = %v, %t, %d", i, x, found, e)
		}
	}
}

// expectRowErrors checks the errors of the functions with a matrix and a row.
func expectRowErrors(t *testing.T, i int, m api.Matrix, x api.Row, want api.Errno) {
	t.Helper()
	if multiples, found, e := smith.Solve(m, x); e != want || found || multiples != nil {
		t.Errorf("%d: Solve = %v, %t, %d, not %d", i, multiples, found, e, want)
	}
	if n, finite, e := smith.Order(m, x); e != want || finite || n != 0 {
		t.Errorf("%d: Order = %d, %t, %d, not %d", i, n, finite, e, want)
	}
}

func TestRowErrors(t *testing.T) {
	m := diagonal(2, 3)
	for i, c := range []struct {
		m    api.Matrix
		x    api.Row
		want api.Errno
	}{
		{m, nil, api.ErrSize},
		{m, api.Row{1}, api.ErrSize},
		{m, api.Row{1, 2, 3}, api.ErrSize},
		{m, make(api.Row, api.MaxRow), api.ErrSize},
		{m, make(api.Row, api.MaxRow+1), api.ErrLimit},
		{m, api.Row{0, most + 1}, api.ErrLimit},
		{m, api.Row{-most - 1}, api.ErrLimit},
		{m, api.Row{math.MinInt, 0}, api.ErrLimit},
		{m, api.Row{math.MaxInt, 0, 0}, api.ErrLimit},
		{nil, make(api.Row, api.MaxRow+1), api.ErrLimit},
		{nil, api.Row{most + 1}, api.ErrLimit},
		{api.Matrix{{}}, api.Row{0}, api.ErrSize},
	} {
		expectRowErrors(t, i, c.m, c.x, c.want)
	}
	for i, w := range wrongMatrices() {
		expectRowErrors(t, i, w.m, api.Row{most + 1}, w.e)
	}
}

// P8.4

func TestQuotient(t *testing.T) {
	for _, m := range samples() {
		if len(m)*columnsOf(m) > 60 {
			continue
		}
		columns := columnsOf(m)
		all := factorsOf(m)
		want := slices.DeleteFunc(slices.Clone(all), func(n *big.Int) bool { return n.IsInt64() && n.Int64() == 1 })
		l, free, e := smith.Quotient(m, columns)
		if !isRight(all) {
			if e != api.ErrLimit || free != 0 || l != nil {
				t.Errorf("Quotient(%v) = %v, %d, %d", m, l, free, e)
			}
		} else if e != api.OK || free != columns-len(all) || !equal(l, want) {
			t.Errorf("Quotient(%v) = %v, %d, %d, not %v", m, l, free, e, all)
		}
		n, finite, e := smith.Exponent(m, columns)
		switch {
		case len(all) < columns:
			if e != api.OK || finite || n != 0 {
				t.Errorf("Exponent(%v) = %d, %t, %d", m, n, finite, e)
			}
		case columns == 0:
			if e != api.OK || !finite || n != 1 {
				t.Errorf("Exponent(%v) = %d, %t, %d", m, n, finite, e)
			}
		case !isRight(all[columns-1:]):
			if e != api.ErrLimit || finite || n != 0 {
				t.Errorf("Exponent(%v) = %d, %t, %d", m, n, finite, e)
			}
		case e != api.OK || !finite || all[columns-1].Cmp(big.NewInt(int64(n))) != 0:
			t.Errorf("Exponent(%v) = %d, %t, %d", m, n, finite, e)
		}
	}
}

func TestQuotientLimits(t *testing.T) {
	for i, c := range []struct {
		m        api.Matrix
		columns  int
		l        api.Row
		free     int
		n        int
		finite   bool
		want, of api.Errno // of Quotient and of Exponent
	}{
		{nil, 0, nil, 0, 1, true, api.OK, api.OK},
		{nil, 12, nil, 12, 0, false, api.OK, api.OK},
		{api.Matrix{{}, {}}, 0, nil, 0, 1, true, api.OK, api.OK},
		{api.Matrix{{0, 0}}, 2, nil, 2, 0, false, api.OK, api.OK},
		{api.Matrix{{most}}, 1, api.Row{most}, 0, most, true, api.OK, api.OK},
		{api.Matrix{{1}, {most}}, 1, nil, 0, 1, true, api.OK, api.OK},
		{diagonal(512, 1_953_125), 2, api.Row{most}, 0, most, true, api.OK, api.OK},
		{diagonal(7, 142_857_143), 2, nil, 0, 0, false, api.ErrLimit, api.ErrLimit}, // 1000000001
		{append(diagonal(7, 142_857_143, 0)[:2:2], api.Row{0, 0, 0}), 3, nil, 0, 0, false, api.ErrLimit, api.OK},
		{diagonal(slices.Repeat([]int{most}, 12)...), 12, slices.Repeat(api.Row{most}, 12), 0, most, true, api.OK, api.OK},
		{nil, -1, nil, 0, 0, false, api.ErrRange, api.ErrRange},
		{nil, 13, nil, 0, 0, false, api.ErrRange, api.ErrRange},
		{nil, math.MinInt, nil, 0, 0, false, api.ErrRange, api.ErrRange},
		{diagonal(1, 2), math.MaxInt, nil, 0, 0, false, api.ErrRange, api.ErrRange},
		{diagonal(1, 2), -1, nil, 0, 0, false, api.ErrRange, api.ErrRange},
		{diagonal(1, 2), 13, nil, 0, 0, false, api.ErrRange, api.ErrRange},
		{diagonal(1, 2), 1, nil, 0, 0, false, api.ErrSize, api.ErrSize},
		{diagonal(1, 2), 3, nil, 0, 0, false, api.ErrSize, api.ErrSize},
		{diagonal(1, 2), 0, nil, 0, 0, false, api.ErrSize, api.ErrSize},
		{diagonal(7, 142_857_143), 12, nil, 0, 0, false, api.ErrSize, api.ErrSize},
		{api.Matrix{{}}, 1, nil, 0, 0, false, api.ErrSize, api.ErrSize},
	} {
		if l, free, e := smith.Quotient(c.m, c.columns); e != c.want || free != c.free || !slices.Equal(l, c.l) {
			t.Errorf("%d: Quotient = %v, %d, %d", i, l, free, e)
		}
		if n, finite, e := smith.Exponent(c.m, c.columns); e != c.of || n != c.n || finite != c.finite {
			t.Errorf("%d: Exponent = %d, %t, %d", i, n, finite, e)
		}
	}
	for i, w := range wrongMatrices() {
		l, free, a := smith.Quotient(w.m, -1)
		n, finite, b := smith.Exponent(w.m, 13)
		if a != w.e || b != w.e || l != nil || free != 0 || n != 0 || finite {
			t.Errorf("%d: %d, %d, not %d", i, a, b, w.e)
		}
	}
}

// The order is found by trying one multiple after another.
func TestOrder(t *testing.T) {
	r := rand.New(rand.NewPCG(8, 5))
	counts := map[bool]int{}
	for range 400 {
		m := random(r, 1+r.IntN(3), 1+r.IntN(3), 1+r.IntN(6))
		x := random(r, 1, columnsOf(m), 8)[0]
		var rows [][]*big.Int
		for _, s := range m {
			rows = append(rows, bigRow(s))
		}
		form := formOf(rows, columnsOf(m))
		want := 0
		for n := 1; n <= 1000 && want == 0; n++ {
			multiple := bigRow(x)
			for _, a := range multiple {
				a.Mul(a, big.NewInt(int64(n)))
			}
			if pivotOf(reduced(form, multiple)) < 0 {
				want = n
			}
		}
		n, finite, e := smith.Order(m, x)
		if e != api.OK || n != want || finite != (want > 0) {
			t.Errorf("Order(%v, %v) = %d, %t, %d, not %d", m, x, n, finite, e, want)
		}
		counts[finite]++
	}
	if counts[true] < 50 || counts[false] < 50 {
		t.Errorf("the samples are one-sided: %v", counts)
	}
}

func TestOrderLimits(t *testing.T) {
	for i, c := range []struct {
		m      api.Matrix
		x      api.Row
		n      int
		finite bool
		want   api.Errno
	}{
		{diagonal(2, 3), api.Row{1, 1}, 6, true, api.OK},
		{diagonal(2, 3), api.Row{1, 0}, 2, true, api.OK},
		{diagonal(2, 3), api.Row{0, 0}, 1, true, api.OK},
		{api.Matrix{{1, 2}}, api.Row{1, 0}, 0, false, api.OK},
		{api.Matrix{{2, 4}}, api.Row{-1, -2}, 2, true, api.OK},
		{api.Matrix{{2, 4}}, api.Row{-1, -1}, 0, false, api.OK},
		{api.Matrix{{0, 0}}, api.Row{0, 0}, 1, true, api.OK},
		{nil, make(api.Row, api.MaxRow), 1, true, api.OK},
		{nil, nil, 1, true, api.OK},
		{api.Matrix{{}, {}}, nil, 1, true, api.OK},
		{nil, api.Row{0, 1}, 0, false, api.OK},
		{api.Matrix{{most}}, api.Row{1}, most, true, api.OK},
		{api.Matrix{{most}}, api.Row{-most}, 1, true, api.OK},
		{diagonal(512, 1_953_125), api.Row{1, 1}, most, true, api.OK},
		{diagonal(7, 142_857_143), api.Row{1, 1}, 0, false, api.ErrLimit}, // 1000000001
		{diagonal(7, 142_857_143), api.Row{-1, -1}, 0, false, api.ErrLimit},
		{diagonal(7, 142_857_143), api.Row{7, 1}, 142_857_143, true, api.OK},
		{api.Matrix{{7, 0, 0}, {0, 142_857_143, 0}}, api.Row{1, 1, 1}, 0, false, api.OK},
		{api.Matrix{{2, 1}, {1, 500_000_001}}, api.Row{0, 1}, 0, false, api.ErrLimit},
		{api.Matrix{{2, 1}, {1, 500_000_001}}, api.Row{1, 500_000_001}, 1, true, api.OK}, // the form is too great
		{diagonal(most, most-1, most-2, most-3, most-4, most-5, most-6, most-7, most-8, most-9, most-10, most-11), slices.Repeat(api.Row{1}, 12), 0, false, api.ErrLimit},
	} {
		if n, finite, e := smith.Order(c.m, c.x); e != c.want || n != c.n || finite != c.finite {
			t.Errorf("%d: Order = %d, %t, %d", i, n, finite, e)
		}
	}
}

// P8.5

func TestConsequences(t *testing.T) {
	r := rand.New(rand.NewPCG(8, 6))
	for range 60 {
		rows, columns := 1+r.IntN(5), 1+r.IntN(5)
		m := even(r, random(r, rows, columns, 4))
		l, _ := smith.Factors(m)
		other := product(product(unimodular(r, rows), m), unimodular(r, columns))
		turned, _ := table.Transpose(append(other, make(api.Row, columns)))
		for _, x := range []api.Matrix{other, turned} {
			if again, e := smith.Factors(x); e != api.OK || !slices.Equal(again, l) {
				t.Errorf("Factors(%v) = %v, %d, not %v", x, again, e, l)
			}
		}
		for _, b := range append(random(r, 3, columns, 3), product(random(r, 1, rows, 2), m)[0]) {
			_, found, _ := smith.Solve(m, b)
			if with, e := smith.Factors(append(deep(m), b)); e != api.OK || found != slices.Equal(with, l) {
				t.Errorf("Solve(%v, %v): %t, but the factors are %v and %v", m, b, found, l, with)
			}
		}
		exponent, finite, _ := smith.Exponent(m, columns)
		greatest := 0
		for _, x := range append(random(r, 20, columns, 9), unimodular(r, columns)...) {
			n, is, e := smith.Order(m, x)
			if finite && (!is || exponent%n != 0) || e != api.OK {
				t.Errorf("Order(%v, %v) = %d, %t, %d: the exponent is %d", m, x, n, is, e, exponent)
			}
			greatest = max(greatest, n)
		}
		if _, right, e := smith.Transform(m); finite && e == api.OK && greatest < exponent {
			expectGreatestOrder(t, m, right, exponent)
		}
	}
}

// expectGreatestOrder checks that some row has the exponent as its order: one of the inverse of the transform of the columns, as these are multiples of the factors in the lattice.
func expectGreatestOrder(t *testing.T, m, right api.Matrix, exponent int) {
	t.Helper()
	inverse, _ := table.Inverse(right)
	last := api.Row{}
	for _, x := range inverse[len(inverse)-1] {
		n, _ := new(big.Int).SetString(string(x.Num), 10)
		last = append(last, int(n.Int64()))
	}
	if n, finite, e := smith.Order(m, last); e != api.OK || !finite || n != exponent {
		t.Errorf("Order(%v, %v) = %d, %t, %d, not %d", m, last, n, finite, e, exponent)
	}
}

// P1: the error of a matrix is returned first, with zero values.

func TestWrongMatrices(t *testing.T) {
	for i, w := range wrongMatrices() {
		l, e1 := smith.Factors(w.m)
		form, e2 := smith.Form(w.m)
		left, right, e3 := smith.Transform(w.m)
		kernel, e4 := smith.Kernel(w.m)
		if l != nil || form != nil || left != nil || right != nil || kernel != nil {
			t.Errorf("%d: no zero values", i)
		}
		for k, e := range []api.Errno{e1, e2, e3, e4} {
			if e != w.e {
				t.Errorf("%d, %d: %d, not %d", i, k, e, w.e)
			}
		}
	}
}

// Arguments stay what they are, and results are new memory.
func TestMemory(t *testing.T) {
	for _, m := range samples() {
		before := deep(m)
		x := slices.Repeat(api.Row{7}, columnsOf(m))
		l, _ := smith.Factors(m)
		form, _ := smith.Form(m)
		left, right, _ := smith.Transform(m)
		kernel, _ := smith.Kernel(m)
		multiples, _, _ := smith.Solve(m, x)
		cyclic, _, _ := smith.Quotient(m, columnsOf(m))
		smith.Order(m, x)
		smith.Exponent(m, columnsOf(m))
		smith.Verify(m, m, m)
		for _, r := range slices.Concat(form, left, right, kernel) {
			clear(r)
		}
		clear(l)
		clear(multiples)
		clear(cyclic)
		if !same(m, before) || slices.Contains(x, 0) {
			t.Errorf("%v was changed to %v", before, m)
		}
	}
}
