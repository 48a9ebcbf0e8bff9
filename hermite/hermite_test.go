package hermite_test

import (
	"math"
	"math/big"
	"math/rand/v2"
	"slices"
	"testing"

	"schisma/api"
	"schisma/hermite"
)

// P7.1

func TestIsForm(t *testing.T) {
	for _, m := range append(forms(), samples()...) {
		if is, e := hermite.IsForm(m); e != api.OK || is != isForm(m) {
			t.Errorf("IsForm(%v) = %t, %d", m, is, e)
		}
	}
	for _, m := range forms() {
		if is, e := hermite.IsForm(m); e != api.OK || !is {
			t.Errorf("IsForm(%v) = %t, %d", m, is, e)
		}
	}
	for _, m := range noForms() {
		if is, e := hermite.IsForm(m); e != api.OK || is {
			t.Errorf("IsForm(%v) = %t, %d", m, is, e)
		}
	}
}

func TestForm(t *testing.T) {
	tooGreat := 0
	for _, m := range samples() {
		form, e := hermite.Form(m)
		want := formOf(m)
		if slices.ContainsFunc(want, func(r []*big.Int) bool { return !isRight(r) }) {
			tooGreat++
			if e != api.ErrLimit || form != nil {
				t.Errorf("Form(%v) = %v, %d", m, form, e)
			}
			continue
		}
		if e != api.OK || !slices.EqualFunc(form, want, equal) || !isForm(form) {
			t.Errorf("Form(%v) = %v, %d, not %v", m, form, e, want)
		}
	}
	if tooGreat < 5 {
		t.Errorf("only %d forms are too great", tooGreat)
	}
	for i, c := range []struct{ m, form api.Matrix }{
		{api.Matrix{{2, 4}, {3, 5}}, api.Matrix{{1, 1}, {0, 2}}},
		{api.Matrix{{-4, 4, -1}, {7, 0, -3}}, api.Matrix{{1, 20, -14}, {0, 28, -19}}},
		{api.Matrix{{0, 0}, {0, 0}}, nil},
		{api.Matrix{{}, {}}, nil},
		{nil, nil},
		{api.Matrix{{-most, 0, most}}, api.Matrix{{most, 0, -most}}},
		{diagonal(slices.Repeat([]int{-most}, 12)...), diagonal(slices.Repeat([]int{most}, 12)...)},
		{filled(12, 12, -most), filled(1, 12, most)},
	} {
		if form, e := hermite.Form(c.m); e != api.OK || !same(form, c.form) {
			t.Errorf("%d: Form = %v, %d", i, form, e)
		}
	}
}

// A form is an error exactly if an element is too great, be it a pivot or another one; numbers on the way can be as great as they like.
func TestFormLimits(t *testing.T) {
	for i, c := range []struct {
		m, form api.Matrix
	}{
		{api.Matrix{{2, 0}, {1, 500_000_000}}, api.Matrix{{1, 500_000_000}, {0, most}}},
		{api.Matrix{{2, 1}, {1, 500_000_001}}, nil}, // determinant 1000000001
		{api.Matrix{{1, 0, -most}, {0, 1, 1}}, api.Matrix{{1, 0, -most}, {0, 1, 1}}},
		{api.Matrix{{1, 1, -most + 1}, {0, 1, 1}}, api.Matrix{{1, 0, -most}, {0, 1, 1}}},
		{api.Matrix{{1, 1, -most}, {0, 1, 1}}, nil},
		{api.Matrix{{1, -1, most - 1}, {0, 1, 1}}, api.Matrix{{1, 0, most}, {0, 1, 1}}},
		{api.Matrix{{1, -1, most}, {0, 1, 1}}, nil},
		// consecutive elements: the determinant is -1
		{api.Matrix{{most, most - 1}, {most - 1, most - 2}}, diagonal(1, 1)},
		{api.Matrix{{1, most, 0, 0}, {0, 1, most, 0}, {0, 0, 1, most}, {0, 0, 0, 1}}, diagonal(1, 1, 1, 1)},
		{api.Matrix{{1, most, 0, 0}, {0, 1, most, 0}, {0, 0, 1, most}}, nil},
	} {
		form, e := hermite.Form(c.m)
		if c.form == nil && (e != api.ErrLimit || form != nil) || c.form != nil && (e != api.OK || !same(form, c.form)) {
			t.Errorf("%d: Form = %v, %d", i, form, e)
		}
	}
}

func TestPivots(t *testing.T) {
	for _, m := range forms() {
		var want []int
		for _, r := range m {
			want = append(want, slices.IndexFunc(r, func(n int) bool { return n != 0 }))
		}
		if got, e := hermite.Pivots(m); e != api.OK || !slices.Equal(got, want) {
			t.Errorf("Pivots(%v) = %v, %d", m, got, e)
		}
	}
	for _, m := range noForms() {
		if got, e := hermite.Pivots(m); e != api.ErrForm || got != nil {
			t.Errorf("Pivots(%v) = %v, %d", m, got, e)
		}
	}
}

// P7.2

// isTransform reports whether a matrix is unimodular, and its product with m has the rows of a form and then zeros.
func isTransform(m, form, transform api.Matrix) bool {
	if len(transform) != len(m) || columnsOf(transform) != len(m) {
		return false
	}
	all := choose(0, len(m), len(m))[0]
	if determinant(transform, all, all).CmpAbs(big.NewInt(1)) != 0 {
		return false
	}
	for i, multiples := range transform {
		for j := range columnsOf(m) {
			sum := new(big.Int)
			for k, r := range m {
				sum.Add(sum, new(big.Int).Mul(big.NewInt(int64(multiples[k])), big.NewInt(int64(r[j]))))
			}
			want := 0
			if i < len(form) {
				want = form[i][j]
			}
			if sum.Cmp(big.NewInt(int64(want))) != 0 {
				return false
			}
		}
	}
	return true
}

func TestTransform(t *testing.T) {
	for _, m := range samples() {
		form, wrong := hermite.Form(m)
		got, e := hermite.Transform(m)
		if e == api.ErrLimit && got == nil && (wrong == api.ErrLimit || !isTame(m)) {
			continue
		}
		if e != api.OK || wrong != api.OK || !isTransform(m, form, got) {
			t.Errorf("Transform(%v) = %v, %d", m, got, e)
		}
		if e := hermite.Verify(m, form, got); e != api.OK {
			t.Errorf("Verify(%v, %v, %v) = %d", m, form, got, e)
		}
	}
}

// isTame reports whether a transform has to be found.
func isTame(m api.Matrix) bool {
	for _, r := range m {
		for _, n := range r {
			if n < -20 || n > 20 {
				return false
			}
		}
	}
	return len(m) <= 4
}

// Of matrices with at most 4 rows whose elements are from -20 to 20 the transform is always found, also of those with the greatest determinants and of dependent rows.
func TestTame(t *testing.T) {
	l := []api.Matrix{
		{{20, 20, 20, 20}, {20, -20, 20, -20}, {20, 20, -20, -20}, {20, -20, -20, 20}},
		{{20, 20, 19, 3}, {-19, 20, -20, 9}, {20, -20, -20, -19}, {0, -9, 19, 2}},
		{{20, 20, 19}, {-19, 20, -20}, {20, -20, -20}, {0, -9, 19}},
		{{20}, {19}, {-17}, {13}}, {{0}, {0}, {0}, {0}}, filled(4, 12, -20), filled(4, 0, 0),
	}
	r := rand.New(rand.NewPCG(7, 3))
	for range 4000 {
		bound := []int{1, 3, 20}[r.IntN(3)]
		m := random(r, 1+r.IntN(4), 1+r.IntN(6), bound)
		if r.IntN(3) == 0 {
			m[len(m)-1] = slices.Clone(m[0])
		}
		l = append(l, m)
	}
	for range 100 {
		l = append(l, random(r, 4, 12, 20))
	}
	for _, m := range l {
		form, e := hermite.Form(m)
		if e != api.OK {
			t.Errorf("Form(%v): %d", m, e)
		}
		if got, e := hermite.Transform(m); e != api.OK || !isTransform(m, form, got) {
			t.Errorf("Transform(%v) = %v, %d", m, got, e)
		}
	}
}

// Independent rows have one transform alone, so that it is known whether it is too great.
func TestTransformLimits(t *testing.T) {
	for i, c := range []struct {
		m, transform api.Matrix
	}{
		{api.Matrix{{1, most}, {0, 1}}, api.Matrix{{1, -most}, {0, 1}}},
		{api.Matrix{{1, 40_000, 0}, {0, 1, 25_000}, {0, 0, 1}}, api.Matrix{{1, -40_000, most}, {0, 1, -25_000}, {0, 0, 1}}},
		{api.Matrix{{1, 7, 0}, {0, 1, 142_857_143}, {0, 0, 1}}, nil}, // 1000000001
		{api.Matrix{{1, most, 0}, {0, 1, most}, {0, 0, 1}}, nil},
		{api.Matrix{{2, 1}, {1, 500_000_001}}, nil}, // the form is too great, but 0 1, 1 -2 would not be
	} {
		got, e := hermite.Transform(c.m)
		if c.transform == nil && (e != api.ErrLimit || got != nil) || c.transform != nil && (e != api.OK || !same(got, c.transform)) {
			t.Errorf("%d: Transform = %v, %d", i, got, e)
		}
	}
}

func TestVerify(t *testing.T) {
	m := api.Matrix{{2, 4}, {3, 5}}
	form := api.Matrix{{1, 1}, {0, 2}}
	good := api.Matrix{{-1, 1}, {3, -2}}
	three := api.Matrix{{6}, {10}, {15}}
	for i, c := range []struct {
		m, form, transform api.Matrix
		want               api.Errno
	}{
		{m, form, good, api.OK},
		{nil, nil, nil, api.OK},
		{api.Matrix{{0}}, nil, api.Matrix{{-1}}, api.OK},
		{api.Matrix{{0}}, nil, api.Matrix{{2}}, api.ErrCertificate},
		{api.Matrix{{0}}, api.Matrix{{0}}, api.Matrix{{1}}, api.ErrCertificate},
		{api.Matrix{{}, {}}, nil, api.Matrix{{1, 5}, {0, 1}}, api.OK},
		{api.Matrix{{}, {}}, nil, api.Matrix{{1, 5}, {1, 4}}, api.OK},
		{api.Matrix{{}, {}}, api.Matrix{{}}, api.Matrix{{1, 5}, {0, 1}}, api.ErrCertificate},
		{api.Matrix{{}, {}}, api.Matrix{{1}}, api.Matrix{{1, 5}, {0, 1}}, api.ErrCertificate},
		{api.Matrix{{}, {}}, nil, api.Matrix{{1, 5}, {1, 5}}, api.ErrCertificate},
		{three, api.Matrix{{1}}, api.Matrix{{1, 1, -1}, {5, 0, -2}, {0, 3, -2}}, api.OK},
		{three, api.Matrix{{1}}, api.Matrix{{-14, -2, 7}, {0, -3, 2}, {-5, 3, 0}}, api.OK},
		{three, api.Matrix{{1}}, api.Matrix{{1, 1, -1}, {10, 0, -4}, {0, 3, -2}}, api.ErrCertificate}, // not unimodular
		{three, api.Matrix{{1}}, api.Matrix{{5, 0, -2}, {1, 1, -1}, {0, 3, -2}}, api.ErrCertificate},  // rows of zeros before the form
		{three, api.Matrix{{1}}, api.Matrix{{1, 1, -1}, {6, 1, -3}, {0, 3, -2}}, api.ErrCertificate},  // the form twice
		{three, api.Matrix{{1}, {0}}, api.Matrix{{1, 1, -1}, {5, 0, -2}, {0, 3, -2}}, api.ErrCertificate},
		{three, nil, api.Matrix{{1, 1, -1}, {5, 0, -2}, {0, 3, -2}}, api.ErrCertificate},
		{three, api.Matrix{{1, 0}}, api.Matrix{{1, 1, -1}, {5, 0, -2}, {0, 3, -2}}, api.ErrCertificate},
		{three, api.Matrix{{2}}, api.Matrix{{2, 2, -2}, {5, 0, -2}, {0, 3, -2}}, api.ErrCertificate},
		{m, form, api.Matrix{{1, 0}, {0, 1}}, api.ErrCertificate},
		{m, form, api.Matrix{{3, -2}, {-1, 1}}, api.ErrCertificate},
		{m, api.Matrix{{1, 3}, {0, 2}}, api.Matrix{{2, -1}, {3, -2}}, api.ErrCertificate}, // the product, but no form
		{m, api.Matrix{{-1, -1}, {0, 2}}, api.Matrix{{1, -1}, {3, -2}}, api.ErrCertificate},
		{m, m, api.Matrix{{1, 0}, {0, 1}}, api.ErrCertificate},
		{m, api.Matrix{{1, 1}}, good, api.ErrCertificate},
		{m, nil, good, api.ErrCertificate},
		{m, api.Matrix{{1, 1}, {0, 2}, {0, 0}}, good, api.ErrCertificate},
		{api.Matrix{{2}}, api.Matrix{{2}}, api.Matrix{{2}}, api.ErrCertificate},
		{api.Matrix{{2}}, api.Matrix{{4}}, api.Matrix{{2}}, api.ErrCertificate},
		{api.Matrix{{most}}, api.Matrix{{most}}, api.Matrix{{most}}, api.ErrCertificate}, // the product is too great
		{api.Matrix{{-most}}, api.Matrix{{most}}, api.Matrix{{-1}}, api.OK},
		{m, form, nil, api.ErrSize},
		{m, form, api.Matrix{{1, 0}}, api.ErrSize},
		{m, form, api.Matrix{{1}, {0}}, api.ErrSize},
		{m, form, api.Matrix{{1, 0, 0}, {0, 1, 0}}, api.ErrSize},
		{m, form, api.Matrix{{1, 0}, {0, 1}, {0, 0}}, api.ErrSize},
		{m, form, diagonal(1, 1, 1), api.ErrSize},
		{nil, nil, api.Matrix{{1}}, api.ErrSize},
		{nil, nil, api.Matrix{{}}, api.ErrSize},
		{m, api.Matrix{{0, 0}}, nil, api.ErrSize},
		{nil, api.Matrix{{1}}, nil, api.ErrCertificate},
		{api.Matrix{{most + 1}}, api.Matrix{{1}, {1, 2}}, nil, api.ErrLimit},
		{m, api.Matrix{{1}, {1, 2}}, api.Matrix{{most + 1}}, api.ErrSize},
		{m, api.Matrix{{most + 1}}, api.Matrix{{1}, {1, 2}}, api.ErrLimit},
		{m, form, api.Matrix{{most + 1}}, api.ErrLimit},
		{m, form, api.Matrix{{1, 0}, {0}}, api.ErrSize},
	} {
		if e := hermite.Verify(c.m, c.form, c.transform); e != c.want {
			t.Errorf("%d: Verify = %d, not %d", i, e, c.want)
		}
	}
}

// P7.3

func TestMembers(t *testing.T) {
	r := rand.New(rand.NewPCG(7, 4))
	for _, form := range forms() {
		columns := columnsOf(form)
		l := append(random(r, 3, columns, 5), random(r, 3, columns, most)...)
		if len(form) == 0 {
			l = api.Matrix{nil, {0}, {5}, {-most, 0, 0}, slices.Repeat(api.Row{0}, api.MaxRow), slices.Repeat(api.Row{most}, api.MaxRow)}
		} else {
			l = append(l, make(api.Row, columns), form[0])
			for _, x := range combined(r, form, 5, 3) {
				if isRight(bigRow(x)) {
					l = append(l, x)
				}
			}
		}
		for _, x := range l {
			expectMember(t, form, x)
		}
	}
}

// expectMember checks what is said of a row modulo a form.
func expectMember(t *testing.T, form api.Matrix, x api.Row) {
	t.Helper()
	rest, multiples := divide(form, bigRow(x))
	r, m, e := hermite.Reduce(form, x)
	switch right := isRight(rest) && isRight(multiples); {
	case right && (e != api.OK || !equal(r, rest) || !equal(m, multiples)):
		t.Errorf("Reduce(%v, %v) = %v, %v, %d, not %v, %v", form, x, r, m, e, rest, multiples)
	case !right && (e != api.ErrLimit || r != nil || m != nil):
		t.Errorf("Reduce(%v, %v) = %v, %v, %d", form, x, r, m, e)
	}
	if is, e := hermite.Contains(form, x); e != api.OK || is != isZero(rest) {
		t.Errorf("Contains(%v, %v) = %t, %d", form, x, is, e)
	}
	c, found, e := hermite.Coordinates(form, x)
	switch {
	case !isZero(rest) && (e != api.OK || found || c != nil),
		isZero(rest) && isRight(multiples) && (e != api.OK || !found || !equal(c, multiples)),
		isZero(rest) && !isRight(multiples) && (e != api.ErrLimit || found || c != nil):
		t.Errorf("Coordinates(%v, %v) = %v, %t, %d, not %v", form, x, c, found, e, multiples)
	}
}

// The greatest results that are allowed, and the least ones that are not: of the rest, and of the multiples, also those of rows that are contained.
func TestMemberLimits(t *testing.T) {
	deep := api.Matrix{{1, 0, 1}, {0, 1, 1}, {0, 0, 2}}
	for i, c := range []struct {
		form            api.Matrix
		x               api.Row
		rest, multiples api.Row
	}{
		{api.Matrix{{1, most}}, api.Row{1, 0}, api.Row{0, -most}, api.Row{1}},
		{api.Matrix{{1, most}}, api.Row{1, -1}, nil, nil},
		{api.Matrix{{1, -most}}, api.Row{1, 0}, api.Row{0, most}, api.Row{1}},
		{api.Matrix{{1, -most}}, api.Row{1, 1}, nil, nil},
		{api.Matrix{{1, most}}, api.Row{-most, most}, nil, nil},
		{api.Matrix{{1, 0}, {0, 1}}, api.Row{most, -most}, api.Row{0, 0}, api.Row{most, -most}},
		{api.Matrix{{1, 1}, {0, 2}}, api.Row{most, -most}, api.Row{0, 0}, api.Row{most, -most}},
		{deep, api.Row{most, 0, -most}, api.Row{0, 0, 0}, api.Row{most, 0, -most}},
		{deep, api.Row{most, 0, -most + 1}, api.Row{0, 0, 1}, api.Row{most, 0, -most}},
		{deep, api.Row{most, 2, -most}, nil, nil},
		{deep, api.Row{most, 1, -most}, nil, nil},
		{deep, api.Row{-most, -most, most}, nil, nil},
		{api.Matrix{{1, 0, most}, {0, 1, -most}}, api.Row{most, most, 5}, api.Row{0, 0, 5}, api.Row{most, most}},
	} {
		expectMember(t, c.form, c.x)
		want := api.OK
		if c.rest == nil {
			want = api.ErrLimit
		}
		if rest, multiples, e := hermite.Reduce(c.form, c.x); e != want || !slices.Equal(rest, c.rest) || !slices.Equal(multiples, c.multiples) {
			t.Errorf("%d: Reduce = %v, %v, %d", i, rest, multiples, e)
		}
	}
	long := filled(11, 12, 0)
	for i := range long {
		long[i][i], long[i][11] = 1, -most
	}
	expectMember(t, long, slices.Repeat(api.Row{most}, 12))
	expectMember(t, long, slices.Repeat(api.Row{-most}, 12))
}

func TestMemberErrors(t *testing.T) {
	form := api.Matrix{{2, 0}, {0, 3}}
	for i, c := range []struct {
		form api.Matrix
		x    api.Row
		want api.Errno
	}{
		{form, nil, api.ErrSize},
		{form, api.Row{1}, api.ErrSize},
		{form, api.Row{1, 2, 3}, api.ErrSize},
		{form, api.Row{1, most + 1}, api.ErrLimit},
		{form, api.Row{math.MinInt, 0}, api.ErrLimit},
		{form, api.Row{math.MaxInt, 0, 0}, api.ErrLimit},
		{form, make(api.Row, api.MaxRow), api.ErrSize},
		{api.Matrix{{1, 2}}, api.Row{1}, api.ErrSize},
		{api.Matrix{{1}}, api.Row{1, 2}, api.ErrSize},
		{api.Matrix{{1}}, nil, api.ErrSize},
		{form, make(api.Row, api.MaxRow+1), api.ErrLimit},
		{nil, make(api.Row, api.MaxRow+1), api.ErrLimit},
		{nil, api.Row{-most - 1}, api.ErrLimit},
		{api.Matrix{{0, 1}, {1, 0}}, api.Row{most + 1}, api.ErrForm},
		{api.Matrix{{0, 0}}, nil, api.ErrForm},
		{api.Matrix{{}}, nil, api.ErrForm},
	} {
		expectMemberError(t, i, c.form, c.x, c.want)
	}
	for i, w := range wrongMatrices() {
		expectMemberError(t, i, w.m, api.Row{most + 1}, w.e)
	}
	for i, m := range noForms() {
		expectMemberError(t, i, m, make(api.Row, columnsOf(m)), api.ErrForm)
	}
}

// expectMemberError checks the error of all functions with a form and a row.
func expectMemberError(t *testing.T, i int, form api.Matrix, x api.Row, want api.Errno) {
	t.Helper()
	if r, m, e := hermite.Reduce(form, x); e != want || r != nil || m != nil {
		t.Errorf("%d: Reduce(%v, %v) = %v, %v, %d, not %d", i, form, x, r, m, e, want)
	}
	if is, e := hermite.Contains(form, x); e != want || is {
		t.Errorf("%d: Contains(%v, %v) = %t, %d, not %d", i, form, x, is, e, want)
	}
	if c, found, e := hermite.Coordinates(form, x); e != want || found || c != nil {
		t.Errorf("%d: Coordinates(%v, %v) = %v, %t, %d, not %d", i, form, x, c, found, e, want)
	}
}

// P7.4

// expectIndex checks what is said of a form and the rows of a matrix.
func expectIndex(t *testing.T, form, sub api.Matrix) {
	t.Helper()
	inside := !slices.ContainsFunc(sub, func(r api.Row) bool {
		return !has(form, r) && (len(form) > 0 || slices.ContainsFunc(r, func(n int) bool { return n != 0 }))
	})
	if is, e := hermite.Includes(form, sub); e != api.OK || is != inside {
		t.Errorf("Includes(%v, %v) = %t, %d", form, sub, is, e)
	}
	n, finite, e := hermite.Index(form, sub)
	if !inside {
		if n != "" || finite || e != api.ErrConflict {
			t.Errorf("Index(%v, %v) = %s, %t, %d", form, sub, n, finite, e)
		}
		return
	}
	d, rank := divisor(sub)
	g, full := divisor(form)
	if rank < full {
		if n != "" || finite || e != api.OK {
			t.Errorf("Index(%v, %v) = %s, %t, %d", form, sub, n, finite, e)
		}
		return
	}
	if want := d.Quo(d, g).String(); string(n) != want || !finite || e != api.OK {
		t.Errorf("Index(%v, %v) = %s, %t, %d, not %s", form, sub, n, finite, e, want)
	}
}

func TestIndex(t *testing.T) {
	r := rand.New(rand.NewPCG(7, 5))
	for _, form := range forms() {
		if len(form) > 6 {
			continue
		}
		expectIndex(t, form, nil)
		expectIndex(t, form, form)
		if len(form) == 0 {
			expectIndex(t, form, api.Matrix{{0}})
			expectIndex(t, form, api.Matrix{{0, 0}, {0, 0}})
			expectIndex(t, form, api.Matrix{{0, 0}, {0, -1}})
			expectIndex(t, form, api.Matrix{{}, {}})
			continue
		}
		for rows := 1; rows < 5; rows++ {
			if sub := combined(r, form, rows, 3); !slices.ContainsFunc(sub, func(x api.Row) bool { return !isRight(bigRow(x)) }) {
				expectIndex(t, form, sub)
			}
			expectIndex(t, form, random(r, rows, columnsOf(form), 4))
		}
	}
	one := diagonal(slices.Repeat([]int{1}, 12)...)
	n, finite, e := hermite.Index(one, diagonal(slices.Repeat([]int{-most}, 12)...))
	if want := new(big.Int).Exp(big.NewInt(most), big.NewInt(12), nil); e != api.OK || !finite || string(n) != want.String() {
		t.Errorf("Index = %s, %t, %d", n, finite, e)
	}
	if n, finite, e := hermite.Index(api.Matrix{{1, 0}, {0, 1}}, api.Matrix{{2, 1}, {1, 500_000_001}}); e != api.OK || !finite || n != "1000000001" {
		t.Errorf("Index = %s, %t, %d", n, finite, e)
	}
}

func TestIndexErrors(t *testing.T) {
	form := api.Matrix{{2, 0}, {0, 3}}
	type errorCase struct {
		form, sub api.Matrix
		want      api.Errno
	}
	l := []errorCase{
		{form, api.Matrix{{0}}, api.ErrSize},
		{api.Matrix{{1}}, api.Matrix{{0, 0}}, api.ErrSize},
		{api.Matrix{{1, 2}}, api.Matrix{{0}, {0}}, api.ErrSize},
		{form, api.Matrix{{0, 0, 0}}, api.ErrSize},
		{form, api.Matrix{{}}, api.ErrSize},
		{form, api.Matrix{{1, 0, 0}}, api.ErrSize},
		{api.Matrix{{0, 0}}, api.Matrix{{0}}, api.ErrForm},
		{api.Matrix{{0, 1}, {1, 0}}, nil, api.ErrForm},
		{api.Matrix{{}}, api.Matrix{{1}, {1, 2}}, api.ErrSize},
		{api.Matrix{{0}}, api.Matrix{{most + 1}}, api.ErrLimit},
		{api.Matrix{{most + 1}}, api.Matrix{{1}, {1, 2}}, api.ErrLimit},
	}
	for _, w := range wrongMatrices() {
		l = append(l, errorCase{w.m, api.Matrix{{most + 1}}, w.e}, errorCase{form, w.m, w.e}, errorCase{api.Matrix{{0}}, w.m, w.e}, errorCase{nil, w.m, w.e})
	}
	for i, c := range l {
		if is, e := hermite.Includes(c.form, c.sub); e != c.want || is {
			t.Errorf("%d: Includes = %t, %d, not %d", i, is, e, c.want)
		}
		if n, finite, e := hermite.Index(c.form, c.sub); e != c.want || finite || n != "" {
			t.Errorf("%d: Index = %s, %t, %d, not %d", i, n, finite, e, c.want)
		}
	}
}

func TestUnimodular(t *testing.T) {
	for _, m := range append(samples(), noForms()...) {
		want := len(m) == columnsOf(m)
		if want {
			all := choose(0, len(m), len(m))[0]
			want = determinant(m, all, all).CmpAbs(big.NewInt(1)) == 0
		}
		if is, e := hermite.Unimodular(m); e != api.OK || is != want {
			t.Errorf("Unimodular(%v) = %t, %d", m, is, e)
		}
	}
	for i, c := range []struct {
		m    api.Matrix
		want bool
	}{
		{nil, true}, {api.Matrix{{}}, false}, {api.Matrix{{1}}, true}, {api.Matrix{{-1}}, true}, {api.Matrix{{2}}, false}, {api.Matrix{{0}}, false}, {api.Matrix{{1, 0}}, false}, {api.Matrix{{1}, {0}}, false},
		{api.Matrix{{most, most - 1}, {most - 1, most - 2}}, true}, {api.Matrix{{0, 1}, {1, 0}}, true}, {api.Matrix{{1, 1}, {1, 1}}, false}, {api.Matrix{{2, 1}, {1, 1}}, true}, {api.Matrix{{10, 0}, {0, 1}}, false},
	} {
		if is, e := hermite.Unimodular(c.m); e != api.OK || is != c.want {
			t.Errorf("%d: Unimodular = %t, %d", i, is, e)
		}
	}
}

// P7.5

func TestConsequences(t *testing.T) {
	r := rand.New(rand.NewPCG(7, 6))
	for _, m := range samples() {
		form, e := hermite.Form(m)
		if e != api.OK || len(m) == 0 {
			continue
		}
		if again, e := hermite.Form(form); e != api.OK || !same(again, form) {
			t.Errorf("Form(%v) = %v, %d", form, again, e)
		}
		other := deep(m)
		r.Shuffle(len(other), func(i, j int) { other[i], other[j] = other[j], other[i] })
		for _, x := range other {
			if r.IntN(2) == 0 {
				for j := range x {
					x[j] = -x[j]
				}
			}
		}
		if len(other) < api.MaxRows {
			other = append(other, make(api.Row, columnsOf(m)))
		}
		if sum := combined(r, other, 1, 2); len(other) < api.MaxRows && isRight(bigRow(sum[0])) {
			other = append(other, sum[0])
		}
		if again, e := hermite.Form(other); e != api.OK || !same(again, form) {
			t.Errorf("Form(%v) = %v, %d, not %v", other, again, e, form)
		}
		if n, finite, e := hermite.Index(form, m); e != api.OK || !finite || n != "1" {
			t.Errorf("Index(%v, %v) = %s, %t, %d", form, m, n, finite, e)
		}
	}
}

func TestIndicesMultiply(t *testing.T) {
	r := rand.New(rand.NewPCG(7, 7))
	for range 40 {
		n := 1 + r.IntN(4)
		a := diagonal(slices.Repeat([]int{1}, n)...)
		b, e := hermite.Form(random(r, n, n, 4))
		if e != api.OK || len(b) < n {
			continue
		}
		c := combined(r, b, n, 3)
		x, _, _ := hermite.Index(a, b)
		y, finite, _ := hermite.Index(b, c)
		z, whole, e := hermite.Index(a, c)
		p, _ := new(big.Int).SetString(string(x), 10)
		q, ok := new(big.Int).SetString(string(y), 10)
		if finite != whole || e != api.OK || ok && p.Mul(p, q).String() != string(z) {
			t.Errorf("indices of %v in %v: %s, %s, %s", c, b, x, y, z)
		}
	}
}

// P1: the error of a matrix is returned first, with zero values.

func TestWrongMatrices(t *testing.T) {
	for i, w := range wrongMatrices() {
		is, e1 := hermite.IsForm(w.m)
		form, e2 := hermite.Form(w.m)
		pivots, e3 := hermite.Pivots(w.m)
		transform, e4 := hermite.Transform(w.m)
		unimodular, e5 := hermite.Unimodular(w.m)
		if is || form != nil || pivots != nil || transform != nil || unimodular {
			t.Errorf("%d: no zero values", i)
		}
		for k, e := range []api.Errno{e1, e2, e3, e4, e5, hermite.Verify(w.m, api.Matrix{{1}}, nil), hermite.Verify(api.Matrix{{1}}, w.m, nil), hermite.Verify(api.Matrix{{1}}, api.Matrix{{1}}, w.m)} {
			if e != w.e {
				t.Errorf("%d, %d: %d, not %d", i, k, e, w.e)
			}
		}
	}
}

// Arguments stay what they are, and results are new memory.
func TestMemory(t *testing.T) {
	for _, m := range append(samples(), forms()...) {
		before := deep(m)
		x := slices.Repeat(api.Row{7}, columnsOf(m))
		form, _ := hermite.Form(m)
		transform, _ := hermite.Transform(m)
		pivots, _ := hermite.Pivots(m)
		rest, multiples, _ := hermite.Reduce(m, x)
		c, _, _ := hermite.Coordinates(m, x)
		hermite.Verify(m, m, m)
		hermite.Includes(m, m)
		hermite.Index(m, m)
		for _, r := range append(form, transform...) {
			clear(r)
		}
		clear(pivots)
		clear(rest)
		clear(multiples)
		clear(c)
		if !same(m, before) || slices.Contains(x, 0) {
			t.Errorf("%v was changed to %v", before, m)
		}
	}
}
