package number_test

import (
	"math"
	"math/big"
	"math/rand/v2"
	"slices"
	"strings"
	"testing"

	"schisma/api"
	"schisma/number"
	"schisma/whole"
)

// samples returns numbers of both signs, among them those at the edges of int and of the elements of rows, and long ones.
func samples() []number.Number {
	l := []number.Number{{}}
	magnitudes := []api.Int{
		"1", "2", "3", "4", "6", "7", "12", "100", "999999999", "1000000000", "1000000001", "3037000499", "3037000500", "4294967296",
		"4611686018427387903", "4611686018427387904", "4611686018427387905", "9223372036854775806", "9223372036854775807", "9223372036854775808", "9223372036854775809",
		"18446744073709551614", "18446744073709551615", "18446744073709551616", "340282366920938463463374607431768211456", "12345678901234567890123456789012345678901234567890",
	}
	for _, m := range magnitudes {
		l = append(l, number.From(m), number.From("-"+m))
	}
	r := rand.New(rand.NewPCG(6, 1))
	for range 20 {
		l = append(l, number.Of(int(r.Uint64())), number.Of(r.IntN(2001)-1000))
	}
	return l
}

// value returns what a number is in the standard library.
func value(t *testing.T, a number.Number) *big.Int {
	t.Helper()
	v, ok := new(big.Int).SetString(string(a.Int()), 10)
	if !ok || v.String() != string(a.Int()) {
		t.Fatalf("%q is not canonical", a.Int())
	}
	return v
}

// expect checks that a number is a value, and the only one that is.
func expect(t *testing.T, what string, a, b, got number.Number, want *big.Int) {
	t.Helper()
	if value(t, got).Cmp(want) != 0 || got != number.From(api.Int(want.String())) {
		t.Errorf("%s of %s and %s = %s, not %v", what, a.Int(), b.Int(), got.Int(), want)
	}
}

func TestOf(t *testing.T) {
	for _, n := range []int{0, 1, -1, api.MaxEntry, -api.MaxEntry, api.MaxEntry + 1, -api.MaxEntry - 1, math.MaxInt, -math.MaxInt, math.MinInt} {
		a := number.Of(n)
		if a.Int() != whole.Of(n) || a != number.From(whole.Of(n)) {
			t.Errorf("Of(%d) = %s", n, a.Int())
		}
		small := -api.MaxEntry <= n && n <= api.MaxEntry
		if got, is := a.Entry(); is != small || small && got != n || !small && got != 0 {
			t.Errorf("Entry of %d = %d, %t", n, got, is)
		}
	}
}

func TestSingle(t *testing.T) {
	for _, a := range samples() {
		v := value(t, a)
		if a.Sign() != v.Sign() || a.IsZero() != (v.Sign() == 0) {
			t.Errorf("Sign of %v = %d", v, a.Sign())
		}
		expect(t, "Neg", a, a, a.Neg(), new(big.Int).Neg(v))
		expect(t, "Abs", a, a, a.Abs(), new(big.Int).Abs(v))
		if _, is := a.Entry(); is != (v.CmpAbs(big.NewInt(api.MaxEntry)) <= 0) {
			t.Errorf("Entry of %v: %t", v, is)
		}
	}
}

func TestCheck(t *testing.T) {
	for _, c := range []struct {
		digits string
		want   api.Errno
	}{
		{"0", api.OK}, {"-7", api.OK}, {"9223372036854775808", api.OK},
		{strings.Repeat("9", api.MaxDigits), api.OK}, {"-" + strings.Repeat("9", api.MaxDigits), api.OK},
		{"1" + strings.Repeat("0", api.MaxDigits), api.ErrNumber}, {"-1" + strings.Repeat("0", api.MaxDigits), api.ErrNumber},
	} {
		if e := number.From(api.Int(c.digits)).Check(); e != c.want {
			t.Errorf("Check of %s = %d", c.digits, e)
		}
	}
}

func TestPairs(t *testing.T) {
	for _, a := range samples() {
		for _, b := range samples() {
			v, w := value(t, a), value(t, b)
			expect(t, "Add", a, b, a.Add(b), new(big.Int).Add(v, w))
			expect(t, "Sub", a, b, a.Sub(b), new(big.Int).Sub(v, w))
			expect(t, "Mul", a, b, a.Mul(b), new(big.Int).Mul(v, w))
			expect(t, "Gcd", a, b, number.Gcd(a, b), new(big.Int).GCD(nil, nil, new(big.Int).Abs(v), new(big.Int).Abs(w)))
			if b.IsZero() {
				if a.IsZero() != b.Divides(a) {
					t.Errorf("0 divides %v: %t", v, b.Divides(a))
				}
				continue
			}
			q, r := a.DivMod(b)
			wantQ, wantR := new(big.Int).QuoRem(v, w, new(big.Int))
			if wantR.Sign() != 0 && wantR.Sign() != w.Sign() {
				wantQ.Sub(wantQ, big.NewInt(1))
				wantR.Add(wantR, w)
			}
			expect(t, "DivMod", a, b, q, wantQ)
			expect(t, "DivMod", a, b, r, wantR)
			expect(t, "Quotient", a, b, a.Quotient(b), wantQ)
			if b.Divides(a) != (wantR.Sign() == 0) {
				t.Errorf("%v divides %v: %t", w, v, b.Divides(a))
			}
		}
	}
}

func TestBezout(t *testing.T) {
	for _, a := range samples() {
		for _, b := range samples() {
			if b.Sign() <= 0 {
				continue
			}
			g, x, y := number.Bezout(a, b)
			wantG, wantX, wantY := whole.Bezout(a.Int(), b.Int())
			if g != number.From(wantG) || x != number.From(wantX) || y != number.From(wantY) {
				t.Errorf("Bezout of %s and %s = %s, %s, %s", a.Int(), b.Int(), g.Int(), x.Int(), y.Int())
			}
		}
	}
	for a := -40; a <= 40; a++ {
		for b := 1; b <= 40; b++ {
			g, x, y := number.Bezout(number.Of(a), number.Of(b))
			wantG, wantX, wantY := whole.Bezout(whole.Of(a), whole.Of(b))
			if g.Int() != wantG || x.Int() != wantX || y.Int() != wantY {
				t.Errorf("Bezout of %d and %d = %s, %s, %s", a, b, g.Int(), x.Int(), y.Int())
			}
		}
	}
}

func TestRows(t *testing.T) {
	m := api.Matrix{{0, -6, api.MaxEntry}, {0, 0, -api.MaxEntry}}
	rows := number.FromMatrix(m)
	back, e := number.Matrix(rows)
	if e != api.OK || len(back) != 2 || back[0][1] != -6 || back[1][2] != -api.MaxEntry {
		t.Errorf("Matrix = %v, %d", back, e)
	}
	if rows[0].Pivot() != 1 || rows[1].Pivot() != 2 || number.FromRow(api.Row{0, 0}).Pivot() != -1 {
		t.Error("wrong pivots")
	}
	if c := rows[0].Content(); c != number.Of(2) {
		t.Errorf("Content = %s", c.Int())
	}
	if c := number.Dot(rows[0], rows[1]); c.Int() != "-1000000000000000000" {
		t.Errorf("Dot = %s", c.Int())
	}
	less := number.Less(rows[0], number.Of(-1), rows[1])
	if got, e := less.Entries(); e != api.OK || got[2] != 0 || got[1] != -6 {
		t.Errorf("Less = %v, %d", got, e)
	}
	if got, e := number.Less(rows[0], number.Of(1), rows[1]).Entries(); e != api.ErrLimit || got != nil {
		t.Errorf("Entries = %v, %d", got, e)
	}
	both, e := number.Matrix(number.Beside(rows, number.Identity(2)))
	if e != api.OK || len(both[1]) != 5 || both[0][3] != 1 || both[1][3] != 0 || both[1][4] != 1 {
		t.Errorf("Beside = %v, %d", both, e)
	}
	if got, e := number.Matrix(append(rows, less, number.Row{number.Of(api.MaxEntry + 1)})); e != api.ErrLimit || got != nil {
		t.Errorf("Matrix = %v, %d", got, e)
	}
}

func TestTranspose(t *testing.T) {
	for _, c := range []struct {
		m       api.Matrix
		columns int
		want    api.Matrix
	}{
		{api.Matrix{{1, 2, 3}, {4, 5, 6}}, 3, api.Matrix{{1, 4}, {2, 5}, {3, 6}}},
		{api.Matrix{{1}, {2}}, 1, api.Matrix{{1, 2}}},
		{api.Matrix{{}, {}}, 0, nil},
		{nil, 2, api.Matrix{{}, {}}},
	} {
		rows := number.Transpose(number.FromMatrix(c.m), c.columns)
		got, e := number.Matrix(rows)
		if e != api.OK || !slices.EqualFunc(got, c.want, func(a, b api.Row) bool { return slices.Equal(a, b) }) {
			t.Errorf("Transpose(%v) = %v, %d", c.m, got, e)
		}
	}
}

func TestSides(t *testing.T) {
	for _, c := range []struct {
		numbers, exponents []int
		above, below       api.Int
	}{
		{nil, nil, "1", "1"},
		{[]int{2, 3, 5}, []int{0, 0, 0}, "1", "1"},
		{[]int{2, 3, 5}, []int{-4, 4, -1}, "81", "80"},
		{[]int{2, 97}, []int{64, -1}, "18446744073709551616", "97"},
		{[]int{7, 11}, []int{-1, -30}, "1", "122145815882204851229911626276607"},
	} {
		if sides := number.Sides(c.numbers, c.exponents); sides != [2]api.Int{c.above, c.below} {
			t.Errorf("Sides(%v, %v) = %v", c.numbers, c.exponents, sides)
		}
	}
	long := number.Sides([]int{89, 97, 2}, []int{1000, 1000, -1000})
	want := new(big.Int).Exp(big.NewInt(89*97), big.NewInt(1000), nil)
	if string(long[0]) != want.String() || string(long[1]) != new(big.Int).Lsh(big.NewInt(1), 1000).String() {
		t.Errorf("Sides of long powers = %v", long)
	}
}
