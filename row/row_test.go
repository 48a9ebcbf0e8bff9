package row_test

import (
	"fmt"
	"math"
	"math/big"
	"math/rand/v2"
	"slices"
	"strings"
	"testing"

	"schisma/api"
	"schisma/row"
)

// P5.1

func TestCheck(t *testing.T) {
	for _, r := range samples() {
		if e := row.Check(r); e != api.OK {
			t.Errorf("Check(%v) = %d", r, e)
		}
	}
	for _, r := range wrongRows() {
		if e := row.Check(r); e != api.ErrLimit {
			t.Errorf("Check(%v) = %d", r, e)
		}
	}
}

func TestCheckAll(t *testing.T) {
	for i, c := range []struct {
		l      []api.Row
		length int
		want   api.Errno
	}{
		{nil, 5, api.OK},
		{nil, -1, api.OK},
		{[]api.Row{{}, nil}, 0, api.OK},
		{[]api.Row{{1, 2}, {3, 4}}, 2, api.OK},
		{slices.Repeat([]api.Row{filled(api.MaxRow, most)}, 100), api.MaxRow, api.OK},
		{[]api.Row{{1, 2}, {3}}, 2, api.ErrSize},
		{[]api.Row{{1, 2}, {3, 4, 5}}, 2, api.ErrSize},
		{[]api.Row{{1, 2}}, -1, api.ErrSize},
		{[]api.Row{{}}, math.MinInt, api.ErrSize},
		{[]api.Row{nil}, 1, api.ErrSize},
		{[]api.Row{{1, 2}, {3, most + 1}}, 2, api.ErrLimit},
		{[]api.Row{{1, most + 1}}, 1, api.ErrLimit},
		{[]api.Row{{1}, {1, most + 1}}, 2, api.ErrSize},
		{[]api.Row{{1, most + 1}, {1}}, 2, api.ErrLimit},
		{[]api.Row{filled(api.MaxRow+1, 0)}, api.MaxRow + 1, api.ErrLimit},
	} {
		if e := row.CheckAll(c.l, c.length); e != c.want {
			t.Errorf("%d: CheckAll = %d", i, e)
		}
	}
}

// P5.2

func TestZeroAndUnit(t *testing.T) {
	for n := range api.MaxRow + 1 {
		if r, e := row.Zero(n); e != api.OK || !slices.Equal(r, filled(n, 0)) {
			t.Errorf("Zero(%d) = %v, %d", n, r, e)
		}
		for i := range n {
			want := filled(n, 0)
			want[i] = 1
			if r, e := row.Unit(n, i); e != api.OK || !slices.Equal(r, want) {
				t.Errorf("Unit(%d, %d) = %v, %d", n, i, r, e)
			}
		}
		for _, i := range []int{-1, n, n + 1, math.MinInt, math.MaxInt} {
			if r, e := row.Unit(n, i); e != api.ErrRange || r != nil {
				t.Errorf("Unit(%d, %d) = %v, %d", n, i, r, e)
			}
		}
	}
	for _, n := range []int{-1, api.MaxRow + 1, math.MinInt, math.MaxInt} {
		if r, e := row.Zero(n); e != api.ErrRange || r != nil {
			t.Errorf("Zero(%d) = %v, %d", n, r, e)
		}
		if r, e := row.Unit(n, 0); e != api.ErrRange || r != nil {
			t.Errorf("Unit(%d, 0) = %v, %d", n, r, e)
		}
	}
}

// P5.3

func TestComparisons(t *testing.T) {
	ordered := []api.Row{
		{}, {math.MinInt}, {-most - 1, 5}, {-2}, {-1, math.MaxInt}, {0}, {0, math.MinInt}, {0, 0}, {0, 0, -1}, {0, 1, 0}, {1}, {1, 2}, {1, 2, 0}, {1, 3}, {2, -9}, {2, 9},
		{3, math.MaxInt}, filled(200, 4), filled(201, 4), {math.MaxInt, 0},
	}
	for i, a := range ordered {
		for j, b := range ordered {
			want := 0
			if i < j {
				want = -1
			} else if i > j {
				want = 1
			}
			if c := row.Compare(a, slices.Clone(b)); c != want {
				t.Errorf("Compare(%v, %v) = %d", a, b, c)
			}
			if row.Equal(a, slices.Clone(b)) != (i == j) {
				t.Errorf("Equal(%v, %v)", a, b)
			}
		}
	}
	if !row.Equal(nil, api.Row{}) || !row.Equal(api.Row{}, nil) || row.Compare(nil, api.Row{}) != 0 || row.Compare(api.Row{}, nil) != 0 {
		t.Error("nil and empty rows differ")
	}
}

func TestIsZero(t *testing.T) {
	for _, r := range []api.Row{nil, {}, {0}, {0, 0, 0}, filled(500, 0)} {
		if !row.IsZero(r) {
			t.Errorf("IsZero(%v)", r)
		}
	}
	for _, r := range []api.Row{{1}, {-1}, {0, 0, 1}, {math.MinInt, 0}, append(filled(500, 0), 1)} {
		if row.IsZero(r) {
			t.Errorf("IsZero(%v)", r)
		}
	}
}

// P5.4

func TestAddAndSub(t *testing.T) {
	for _, a := range samples() {
		for _, b := range samples() {
			sum, e := row.Add(a, b)
			difference, f := row.Sub(a, b)
			if len(a) != len(b) {
				if e != api.ErrSize || f != api.ErrSize || sum != nil || difference != nil {
					t.Errorf("Add or Sub of %v and %v: %d, %d", a, b, e, f)
				}
				continue
			}
			want, right := combined([]api.Row{a, b}, []int{1, 1})
			expect(t, fmt.Sprint("Add of ", a, b), sum, e, want, right)
			want, right = combined([]api.Row{a, b}, []int{1, -1})
			expect(t, fmt.Sprint("Sub of ", a, b), difference, f, want, right)
		}
	}
}

func TestNegAndScale(t *testing.T) {
	factors := []int{0, 1, -1, 2, -2, 3, 999_999_999, most, -most, most + 1, -most - 1, 1 << 32, 1 << 62, math.MaxInt, math.MinInt, math.MinInt + 1}
	for _, r := range samples() {
		want, _ := combined([]api.Row{r}, []int{-1})
		n, e := row.Neg(r)
		expect(t, fmt.Sprint("Neg of ", r), n, e, want, true)
		for _, k := range factors {
			want, right := combined([]api.Row{r}, []int{k})
			s, e := row.Scale(r, k)
			expect(t, fmt.Sprint("Scale of ", r, " by ", k), s, e, want, right)
		}
	}
}

// P5.5

func TestCombine(t *testing.T) {
	source := rand.New(rand.NewPCG(7, 8))
	for length := range 6 {
		for count := 1; count <= api.MaxRow; count += 9 {
			for _, bound := range []int{1, 1000, 10_000, most} {
				var l []api.Row
				for range count {
					l = append(l, random(source, length, bound))
				}
				factors := random(source, count, bound)
				want, right := combined(l, factors)
				r, e := row.Combine(l, factors)
				expect(t, fmt.Sprint("Combine of ", l, factors), r, e, want, right)
			}
		}
	}
	// The sums on the way have no room in an int, but the results have.
	half := api.MaxRow / 2
	l := slices.Repeat([]api.Row{{most, -most, most}}, api.MaxRow)
	l[api.MaxRow-1] = api.Row{most, -most, most - 1}
	factors := slices.Concat(filled(half, most), filled(half, -most))
	r, e := row.Combine(l, factors)
	expect(t, "Combine of great rows", r, e, api.Row{0, 0, most}, true)
	factors[0]--
	r, e = row.Combine(l, factors)
	expect(t, "Combine of great rows", r, e, api.Row{-most, most, 0}, true)
	factors[0]--
	r, e = row.Combine(l, factors)
	expect(t, "Combine of great rows", r, e, nil, false)
}

func TestCombineErrors(t *testing.T) {
	long := filled(api.MaxRow+1, 0)
	for i, c := range []struct {
		l       []api.Row
		factors api.Row
		want    api.Errno
	}{
		{nil, nil, api.ErrEmpty},
		{[]api.Row{}, long, api.ErrEmpty},
		{[]api.Row{{1}, {most + 1}, {1, 2}}, nil, api.ErrLimit},
		{[]api.Row{{1}, {1, 2}, {most + 1}}, nil, api.ErrSize},
		{[]api.Row{{1}, {1, most + 1}}, nil, api.ErrLimit},
		{[]api.Row{{1, 2}, {1}}, long, api.ErrSize},
		{[]api.Row{{}, {0}}, api.Row{1, 1}, api.ErrSize},
		{[]api.Row{long}, nil, api.ErrLimit},
		{[]api.Row{{1}}, long, api.ErrLimit},
		{[]api.Row{{1}}, api.Row{1, most + 1}, api.ErrLimit},
		{[]api.Row{{1}}, nil, api.ErrSize},
		{[]api.Row{{1}}, api.Row{1, 2}, api.ErrSize},
		{[]api.Row{{1}, {1}}, api.Row{1}, api.ErrSize},
		{slices.Repeat([]api.Row{{0}}, api.MaxRow+1), filled(api.MaxRow, 0), api.ErrSize},
		{slices.Repeat([]api.Row{{0}}, api.MaxRow+1), long, api.ErrLimit},
		{[]api.Row{{1}, {1}}, api.Row{most, 1}, api.ErrLimit},
		{[]api.Row{{0, 1}, {0, -1}}, api.Row{-most, 1}, api.ErrLimit},
	} {
		if r, e := row.Combine(c.l, c.factors); e != c.want || r != nil {
			t.Errorf("%d: Combine = %v, %d", i, r, e)
		}
	}
	if r, e := row.Combine([]api.Row{nil, {}}, api.Row{1, 2}); e != api.OK || len(r) != 0 {
		t.Errorf("Combine of empty rows = %v, %d", r, e)
	}
}

// P5.6

func TestDot(t *testing.T) {
	for _, a := range samples() {
		for _, b := range samples() {
			d, e := row.Dot(a, b)
			if len(a) != len(b) {
				if d != 0 || e != api.ErrSize {
					t.Errorf("Dot(%v, %v) = %d, %d", a, b, d, e)
				}
				continue
			}
			want := new(big.Int)
			for i, n := range a {
				want.Add(want, new(big.Int).Mul(big64(n), big64(b[i])))
			}
			expectNumber(t, fmt.Sprint("Dot of ", a, b), d, e, want)
		}
	}
	for _, c := range []struct {
		a, b api.Row
		want int
	}{
		{api.Row{most, most, most}, api.Row{most, -most, 1}, most},
		{api.Row{most, most, -most}, api.Row{most, -most, 1}, -most},
		{api.Row{most, most, -most, 1}, api.Row{most, -most, 1, -1}, -most - 1},
		{api.Row{most, 1}, api.Row{1, 1}, most + 1},
		{api.Row{most, 1, -1}, api.Row{1, 1, 1}, most},
		{api.Row{most, most - 1}, api.Row{2, -1}, most + 1},
		{api.Row{-most, -most + 1}, api.Row{2, -1}, -most - 1},
		{api.Row{999_999_999, 999_999_999, 2}, api.Row{1, 1, -499_999_999}, most},
	} {
		d, e := row.Dot(c.a, c.b)
		expectNumber(t, fmt.Sprint("Dot of ", c.a, c.b), d, e, big64(c.want))
	}
	half := api.MaxRow / 2
	d, e := row.Dot(filled(api.MaxRow, most), slices.Concat(filled(half, most), filled(half, -most)))
	expectNumber(t, "Dot of great rows", d, e, new(big.Int))
}

func TestSumAndMax(t *testing.T) {
	for _, r := range append(samples(), api.Row{999_999_999, -1}, api.Row{-999_999_999, -2}, api.Row{-most, 1}) {
		total, greatest := new(big.Int), 0
		for _, n := range r {
			total.Add(total, new(big.Int).Abs(big64(n)))
			greatest = max(greatest, n, -n)
		}
		s, e := row.Sum(r)
		expectNumber(t, fmt.Sprint("Sum of ", r), s, e, total)
		m, e := row.Max(r)
		expectNumber(t, fmt.Sprint("Max of ", r), m, e, big64(greatest))
	}
}

// P5.7

func TestContentAndPrimitive(t *testing.T) {
	for _, r := range append(samples(), api.Row{-15}, api.Row{0, 0, -7}, api.Row{12, 18, -30}, api.Row{6, 10, 15}, api.Row{most, -most / 2}) {
		content := new(big.Int)
		for _, n := range r {
			content.GCD(nil, nil, content, new(big.Int).Abs(big64(n)))
		}
		c, e := row.Content(r)
		expectNumber(t, fmt.Sprint("Content of ", r), c, e, content)
		p, e := row.Primitive(r)
		if c == 0 {
			if e != api.ErrZero || p != nil {
				t.Errorf("Primitive(%v) = %v, %d", r, p, e)
			}
			continue
		}
		if again, _ := combined([]api.Row{p}, []int{c}); e != api.OK || !slices.Equal(again, r) {
			t.Errorf("Primitive(%v) = %v, %d", r, p, e)
		}
	}
}

func TestNormal(t *testing.T) {
	for _, c := range []struct{ r, want api.Row }{
		{nil, nil}, {api.Row{0, 0}, api.Row{0, 0}}, {api.Row{-3}, api.Row{3}}, {api.Row{3}, api.Row{3}}, {api.Row{1, -2}, api.Row{1, -2}}, {api.Row{0, -1, 2}, api.Row{0, 1, -2}},
		{api.Row{0, -3, 1}, api.Row{0, 3, -1}}, {api.Row{0, 3, -1}, api.Row{0, 3, -1}}, {api.Row{-most, most}, api.Row{most, -most}}, {api.Row{6, -4, 0}, api.Row{6, -4, 0}},
	} {
		n, e := row.Normal(c.r)
		expect(t, fmt.Sprint("Normal of ", c.r), n, e, c.want, true)
	}
}

// P5.8

func TestText(t *testing.T) {
	for _, c := range []struct {
		r    api.Row
		ket  bool
		want string
	}{
		{api.Row{-4, 4, -1}, true, "[-4 4 -1>"}, {api.Row{12, 19, 28}, false, "<12 19 28]"},
		{nil, true, "[>"}, {api.Row{}, false, "<]"}, {api.Row{0}, true, "[0>"}, {api.Row{most, -most}, false, "<1000000000 -1000000000]"},
	} {
		if s, e := row.Text(c.r, c.ket); s != c.want || e != api.OK {
			t.Errorf("Text(%v, %t) = %q, %d", c.r, c.ket, s, e)
		}
		if r, ket, e := row.Parse(c.want); !slices.Equal(r, c.r) || ket != c.ket || e != api.OK {
			t.Errorf("Parse(%q) = %v, %t, %d", c.want, r, ket, e)
		}
	}
}

func TestParseErrors(t *testing.T) {
	for _, s := range []string{
		"", " ", "[", "<", ">", "]", "[]", "<>", "[1 2]", "<1 2>", "1 2", "[1", "1>", "<1", "1]", ">1[", "]1<", "[[1>", "[1>>", "[1>[2>", " [1>", "[1> ", "[1>\n",
		"[ >", "< ]", "[ 1>", "[1 >", "[1  2>", "[1\t2>", "[1,2>", "[1 2,3>", "[01>", "[00>", "[-0>", "[-01>", "[->", "[--1>", "[+1>", "[1->", "[1-2>", "[- 1>", "[1.0>", "[1/2>", "[1e3>", "[0x1>", "[1_000>", "[x>", "[１>", "[\xff>", "[\x00>", "[1\x00>",
		"[99999999999999999999 01>", "[1000000001 x>", "[" + strings.Repeat("0 ", api.MaxRow) + " 0>", "[" + strings.Repeat("9", 500) + "x>", "[0" + strings.Repeat("9", 500) + ">",
		strings.Repeat("[", api.MaxText),
	} {
		if r, ket, e := row.Parse(s); r != nil || ket || e != api.ErrSyntax {
			t.Errorf("Parse(%q) = %v, %t, %d", s, r, ket, e)
		}
	}
	for _, s := range []string{
		"[1000000001>", "<-1000000001]", "[0 1000000001 0>", "[4294967296>", "[9223372036854775808>", "[-9223372036854775809>", "[18446744073709551616>", "<-18446744073709551615]", "[" + strings.Repeat("9", 500) + ">",
		"[" + strings.Repeat("0 ", api.MaxRow) + "0>", "<" + strings.Repeat("9", api.MaxText-2) + "]", "[" + strings.Repeat("0 ", api.MaxText/2-2) + "-5>",
	} {
		if r, ket, e := row.Parse(s); r != nil || ket || e != api.ErrLimit {
			t.Errorf("Parse(%q) = %v, %t, %d", s, r, ket, e)
		}
	}
	for _, s := range []string{"[" + strings.Repeat("9", api.MaxText-1) + ">", strings.Repeat("x", api.MaxText+1)} {
		if r, ket, e := row.Parse(s); r != nil || ket || e != api.ErrLong {
			t.Errorf("Parse of %d bytes = %v, %t, %d", len(s), r, ket, e)
		}
	}
	longest := "[" + strings.Repeat("0 ", api.MaxRow-1) + "-1000000000>"
	if r, ket, e := row.Parse(longest); len(r) != api.MaxRow || r[api.MaxRow-1] != -most || !ket || e != api.OK {
		t.Errorf("Parse(%q) = %v, %t, %d", longest, r, ket, e)
	}
}

// P5.9

func TestConsequences(t *testing.T) {
	source := rand.New(rand.NewPCG(9, 10))
	for i := range 500 {
		length, bound := i%12, 1000
		a, b, c := random(source, length, bound), random(source, length, bound), random(source, length, bound)
		must := func(r api.Row, e api.Errno) api.Row {
			if e != api.OK {
				t.Fatalf("%v, %v, %v: %d", a, b, c, e)
			}
			return r
		}
		add := func(a, b api.Row) api.Row { return must(row.Add(a, b)) }
		dot := func(a, b api.Row) int {
			d, e := row.Dot(a, b)
			must(nil, e)
			return d
		}
		zero := must(row.Zero(length))
		if !row.Equal(add(a, b), add(b, a)) || !row.Equal(add(add(a, b), c), add(a, add(b, c))) || !row.Equal(add(a, zero), a) || !row.Equal(add(a, must(row.Neg(a))), zero) {
			t.Errorf("no group: %v, %v, %v", a, b, c)
		}
		if dot(a, b) != dot(b, a) || dot(add(a, b), c) != dot(a, c)+dot(b, c) || dot(must(row.Scale(a, 7)), b) != 7*dot(a, b) {
			t.Errorf("Dot is not linear: %v, %v, %v", a, b, c)
		}
		normal := must(row.Normal(a))
		if !row.Equal(normal, must(row.Normal(must(row.Neg(a))))) || row.Compare(normal, zero) < 0 {
			t.Errorf("Normal(%v) = %v", a, normal)
		}
		text, e := row.Text(a, i%2 == 0)
		if r, ket, f := row.Parse(text); e != api.OK || f != api.OK || ket != (i%2 == 0) || !row.Equal(r, a) {
			t.Errorf("Parse(%q) = %v, %t", text, r, ket)
		}
	}
}

// The error of Check comes before all others, in the order of the arguments.
func TestWrongRows(t *testing.T) {
	for _, wrong := range wrongRows() {
		for _, right := range []api.Row{nil, {1}, slices.Repeat(api.Row{0}, len(wrong)%api.MaxRow)} {
			for _, pair := range [][2]api.Row{{wrong, right}, {right, wrong}, {wrong, wrong}} {
				a, e := row.Add(pair[0], pair[1])
				s, f := row.Sub(pair[0], pair[1])
				d, g := row.Dot(pair[0], pair[1])
				if a != nil || s != nil || d != 0 || e != api.ErrLimit || f != api.ErrLimit || g != api.ErrLimit {
					t.Errorf("Add, Sub or Dot of %v: %d, %d, %d", pair, e, f, g)
				}
			}
		}
		neg, a := row.Neg(wrong)
		scale, b := row.Scale(wrong, 0)
		sum, c := row.Sum(wrong)
		greatest, d := row.Max(wrong)
		content, e := row.Content(wrong)
		primitive, f := row.Primitive(wrong)
		normal, g := row.Normal(wrong)
		text, h := row.Text(wrong, true)
		if got := []api.Errno{a, b, c, d, e, f, g, h}; !slices.Equal(got, slices.Repeat([]api.Errno{api.ErrLimit}, len(got))) {
			t.Errorf("errors of %v: %v", wrong, got)
		}
		if neg != nil || scale != nil || sum != 0 || greatest != 0 || content != 0 || primitive != nil || normal != nil || text != "" {
			t.Errorf("%v has results", wrong)
		}
	}
}

// Arguments stay as they are, and results share no memory with them.
func TestNewMemory(t *testing.T) {
	a, b := api.Row{2, -4, 6}, api.Row{1, 0, 0}
	for name, f := range map[string]func() (api.Row, api.Errno){
		"Add":       func() (api.Row, api.Errno) { return row.Add(a, b) },
		"Sub":       func() (api.Row, api.Errno) { return row.Sub(a, b) },
		"Neg":       func() (api.Row, api.Errno) { return row.Neg(a) },
		"Scale":     func() (api.Row, api.Errno) { return row.Scale(a, 1) },
		"Combine":   func() (api.Row, api.Errno) { return row.Combine([]api.Row{a}, api.Row{1}) },
		"Primitive": func() (api.Row, api.Errno) { return row.Primitive(b) },
		"Normal":    func() (api.Row, api.Errno) { return row.Normal(a) },
	} {
		first, e := f()
		if e != api.OK {
			t.Fatalf("%s: %d", name, e)
		}
		want := slices.Clone(first)
		clear(first[:cap(first)])
		if second, _ := f(); !slices.Equal(second, want) || !slices.Equal(a, api.Row{2, -4, 6}) || !slices.Equal(b, api.Row{1, 0, 0}) {
			t.Errorf("%s shares its result", name)
		}
	}
}

// P1: whatever the texts and numbers are, the functions return, and with an error there are no other results.
func TestAllArguments(t *testing.T) {
	pieces := []string{"[", "<", ">", "]", " ", "-", "0", "1", "12", "9999999999", "x", "\xff", ""}
	source := rand.New(rand.NewPCG(11, 12))
	for range 20_000 {
		var text strings.Builder
		for range source.IntN(9) {
			text.WriteString(pieces[source.IntN(len(pieces))])
		}
		r, ket, e := row.Parse(text.String())
		if e != api.OK && (r != nil || ket) {
			t.Errorf("Parse(%q) = %v, %t, %d", text.String(), r, ket, e)
		}
		if e == api.OK {
			if s, e := row.Text(r, ket); s != text.String() || e != api.OK {
				t.Errorf("Text of Parse(%q) = %q, %d", text.String(), s, e)
			}
		}
	}
}
