package monzo_test

import (
	"fmt"
	"math"
	"math/big"
	"slices"
	"strings"
	"testing"

	"schisma/api"
	"schisma/monzo"
)

// P12.1

func TestCheck(t *testing.T) {
	for _, p := range lists() {
		for _, x := range rows(len(p)) {
			if e := monzo.Check(p, x); e != api.OK {
				t.Errorf("Check(%v, %v) = %d", p, x, e)
			}
		}
		if e := monzo.CheckAll(p, rows(len(p))); e != api.OK {
			t.Errorf("CheckAll(%v) = %d", p, e)
		}
		if e := monzo.CheckAll(p, nil); e != api.OK {
			t.Errorf("CheckAll(%v, nil) = %d", p, e)
		}
	}
	right, five := api.Row{0, 1000, -1000}, api.Primes{2, 3, 5}
	for _, c := range wrongRows() {
		if e := monzo.Check(five, c.x); e != c.e {
			t.Errorf("Check(%v) = %d, not %d", c.x, e, c.e)
		}
		for _, d := range wrongRows() {
			if e := monzo.CheckAll(five, []api.Row{right, c.x, right, d.x}); e != c.e {
				t.Errorf("CheckAll of %v before %v = %d, not %d", c.x, d.x, e, c.e)
			}
		}
	}
}

// P12.2

func TestOfAndFraction(t *testing.T) {
	for _, p := range lists() {
		for _, x := range rows(len(p)) {
			want := standard(p, x)
			q, e := monzo.Fraction(p, x)
			if !isRight(want.Num()) || !isRight(want.Denom()) {
				if e != api.ErrLimit || q != (api.Rational{}) {
					t.Errorf("Fraction(%v, %v): %d", p, x, e)
				}
				continue
			}
			if e != api.OK || q != rational(want) {
				t.Errorf("Fraction(%v, %v) = %v, %d", p, x, q, e)
			}
			if y, e := monzo.Of(p, rational(want)); e != api.OK || !slices.Equal(y, x) {
				t.Errorf("Of(%v, %v) = %v, %d", p, want, y, e)
			}
		}
	}
}

func TestOfErrors(t *testing.T) {
	five := api.Primes{2, 3, 5}
	great := api.Int(new(big.Int).Lsh(big.NewInt(1), 1001).String())
	greater := api.Int(new(big.Int).Lsh(big.NewInt(7), 1001).String())
	for _, c := range []struct {
		q api.Rational
		e api.Errno
	}{
		{api.Rational{}, api.ErrNumber}, {api.Rational{Num: "6", Den: "4"}, api.ErrNumber}, {api.Rational{Num: "-14", Den: "4"}, api.ErrNumber}, {api.Rational{Num: "1", Den: "0"}, api.ErrNumber},
		{api.Rational{Num: api.Int("1" + strings.Repeat("0", api.MaxDigits)), Den: "1"}, api.ErrNumber},
		{api.Rational{Num: "0", Den: "1"}, api.ErrRange}, {api.Rational{Num: "-3", Den: "2"}, api.ErrRange}, {api.Rational{Num: "-7", Den: "2"}, api.ErrRange},
		{api.Rational{Num: "7", Den: "4"}, api.ErrPrime}, {api.Rational{Num: "5", Den: "14"}, api.ErrPrime}, {api.Rational{Num: greater, Den: "1"}, api.ErrPrime},
		{api.Rational{Num: great, Den: "1"}, api.ErrLimit}, {api.Rational{Num: "1", Den: great}, api.ErrLimit},
	} {
		if x, e := monzo.Of(five, c.q); e != c.e || x != nil {
			t.Errorf("Of(%v) = %v, %d, not %d", c.q, x, e, c.e)
		}
	}
}

// P12.3

func TestTexts(t *testing.T) {
	for _, p := range lists() {
		for _, x := range rows(len(p)) {
			want := standard(p, x)
			text, e := monzo.Text(p, x)
			if !isRight(want.Num()) || !isRight(want.Denom()) {
				if e != api.ErrLimit || text != "" {
					t.Errorf("Text(%v, %v): %d", p, x, e)
				}
			} else if e != api.OK || text != want.RatString() {
				t.Errorf("Text(%v, %v) = %s, %d", p, x, text, e)
			}
			brackets := "[" + strings.Trim(fmt.Sprint([]int(x)), "[]") + ">"
			if s, e := monzo.Brackets(p, x); e != api.OK || s != brackets {
				t.Errorf("Brackets(%v, %v) = %s, %d", p, x, s, e)
			}
			if y, e := monzo.Parse(p, brackets); e != api.OK || !slices.Equal(y, x) {
				t.Errorf("Parse(%v, %s) = %v, %d", p, brackets, y, e)
			}
			if text != "" && len(text) <= api.MaxDigits {
				if y, e := monzo.Parse(p, text); e != api.OK || !slices.Equal(y, x) {
					t.Errorf("Parse(%v, %s) = %v, %d", p, text, y, e)
				}
			}
		}
	}
}

func TestParse(t *testing.T) {
	five := api.Primes{2, 3, 5}
	for s, want := range map[string]api.Row{
		"6/4": {-1, 1, 0}, "1.25": {-2, 0, 1}, "0081/0080": {-4, 4, -1}, "1": {0, 0, 0}, "7/7": {0, 0, 0}, "0.5": {-1, 0, 0}, "2": {1, 0, 0}, "[1000 0 -1000>": {1000, 0, -1000},
	} {
		if x, e := monzo.Parse(five, s); e != api.OK || !slices.Equal(x, want) {
			t.Errorf("Parse(%q) = %v, %d", s, x, e)
		}
	}
	for _, c := range []struct {
		s string
		e api.Errno
	}{
		{"", api.ErrSyntax}, {"x", api.ErrSyntax}, {"<1 2 3]", api.ErrSyntax}, {"[1 2 3]", api.ErrSyntax}, {"[1 2 3", api.ErrSyntax}, {"[01 2 3>", api.ErrSyntax}, {"[1  2 3>", api.ErrSyntax}, {" [1 2 3>", api.ErrSyntax}, {"[", api.ErrSyntax}, {"3//2", api.ErrSyntax}, {"3/-2", api.ErrSyntax},
		{"[>", api.ErrSize}, {"[1 2>", api.ErrSize}, {"[1 2 3 4>", api.ErrSize}, {"[1001 0>", api.ErrSize}, {"[1001 0 0>", api.ErrLimit}, {"[0 0 -1001>", api.ErrLimit},
		{"[1000000001>", api.ErrLimit}, {"[99999999999999999999 0>", api.ErrLimit}, {"[" + strings.Repeat("0 ", 64) + "0>", api.ErrLimit}, // no right rows
		{"[" + strings.Repeat("0 ", api.MaxText) + "0>", api.ErrLong}, {strings.Repeat("1", api.MaxDigits+1), api.ErrLong}, {strings.Repeat("x", api.MaxDigits+1), api.ErrLong},
		{"3/0", api.ErrZero}, {"7/0", api.ErrZero}, {"0", api.ErrRange}, {"-3/2", api.ErrRange}, {"-7", api.ErrRange}, {"7/4", api.ErrPrime}, {"0.7", api.ErrPrime},
		{new(big.Int).Lsh(big.NewInt(1), 1001).String(), api.ErrLimit},
	} {
		if x, e := monzo.Parse(five, c.s); e != c.e || x != nil {
			t.Errorf("Parse(%.80q) = %v, %d, not %d", c.s, x, e, c.e)
		}
	}
}

// P12.4

func TestSums(t *testing.T) {
	expect := func(what string, got api.Row, e api.Errno, want api.Row, right bool) {
		t.Helper()
		if right && (e != api.OK || !slices.Equal(got, want)) || !right && (e != api.ErrLimit || got != nil) {
			t.Errorf("%s = %v, %d, not %v", what, got, e, want)
		}
	}
	for _, p := range lists() {
		for _, x := range rows(len(p)) {
			for _, y := range rows(len(p)) {
				sum, e := monzo.Add(p, x, y)
				want, right := combined(1, x, 1, y)
				expect(fmt.Sprint("Add of ", x, y), sum, e, want, right)
				difference, e := monzo.Sub(p, x, y)
				want, right = combined(1, x, -1, y)
				expect(fmt.Sprint("Sub of ", x, y), difference, e, want, right)
			}
			for _, k := range []int{0, 1, -1, 2, 3, -7, 100, 500, 1000, -1000, 1001, 123_456_789} {
				power, e := monzo.Power(p, x, k)
				want, right := combined(k, x, 0, x)
				expect(fmt.Sprint("Power of ", x, k), power, e, want, right)
			}
			negative, e := monzo.Neg(p, x)
			want, _ := combined(-1, x, 0, x)
			expect(fmt.Sprint("Neg of ", x), negative, e, want, true)
		}
	}
}

// Any int can be a factor: products that wrap around must not become right.
func TestGreatPowers(t *testing.T) {
	five := api.Primes{2, 3, 5}
	for _, k := range []int{math.MinInt, math.MinInt + 1, math.MaxInt, 1 << 62, -1 << 62, 1 << 61, 1<<63 - 8, api.MaxEntry, api.MaxEntry + 1, -api.MaxEntry - 1} {
		for _, x := range []api.Row{{1, 0, 0}, {0, -2, 4}, {8, 16, 1000}} {
			if y, e := monzo.Power(five, x, k); e != api.ErrLimit || y != nil {
				t.Errorf("Power(%v, %d) = %v, %d", x, k, y, e)
			}
		}
		if y, e := monzo.Power(five, api.Row{0, 0, 0}, k); e != api.OK || !slices.Equal(y, api.Row{0, 0, 0}) {
			t.Errorf("Power of zeros by %d = %v, %d", k, y, e)
		}
	}
}

// P12.5

func TestSignAndCompare(t *testing.T) {
	one := big.NewRat(1, 1)
	for _, p := range lists() {
		l := rows(len(p))
		var values []*big.Rat
		for _, x := range l {
			values = append(values, standard(p, x))
		}
		for i, x := range l {
			if sign, e := monzo.Sign(p, x); e != api.OK || sign != values[i].Cmp(one) {
				t.Errorf("Sign(%v, %v) = %d, %d", p, x, sign, e)
			}
			for j := i % 4; j < len(l); j += 4 {
				if c, e := monzo.Compare(p, x, l[j]); e != api.OK || c != values[i].Cmp(values[j]) {
					t.Errorf("Compare(%v, %v, %v) = %d, %d", p, x, l[j], c, e)
				}
			}
		}
	}
}

// Intervals that are so near to the unison that only many digits decide: less than 10 to the power -10 cents.
func TestSignNearUnison(t *testing.T) {
	six, great := api.Primes{2, 3, 5, 7, 11, 13}, api.Primes{71, 73, 79, 83, 89, 97}
	one := big.NewRat(1, 1)
	for _, c := range []struct {
		p api.Primes
		x api.Row
	}{
		{six, api.Row{-178, -449, 439, 153, 140, -282}}, {six, api.Row{242, -101, -457, 501, -131, 7}}, {six, api.Row{374, 195, 18, 33, -339, 96}}, {six, api.Row{397, -513, -204, -440, 426, 176}}, {six, api.Row{141, -349, 472, 495, -947, 325}},
		{great, api.Row{-477, -69, 577, 302, -391, 50}}, {great, api.Row{215, -215, 123, 48, 135, -295}}, {great, api.Row{16, -18, 105, 54, -81, -71}}, {api.Primes{3, 5, 7, 11, 13, 17}, api.Row{-257, -60, -116, 309, 54, -97}},
	} {
		want := standard(c.p, c.x).Cmp(one)
		if sign, e := monzo.Sign(c.p, c.x); e != api.OK || sign != want {
			t.Errorf("Sign(%v) = %d, %d", c.x, sign, e)
		}
		// As a difference of two intervals, which is itself no right interval where it is doubled.
		x, y := make(api.Row, len(c.x)), make(api.Row, len(c.x))
		for i, n := range c.x {
			x[i], y[i] = n, -n
		}
		if got, e := monzo.Compare(c.p, x, y); e != api.OK || got != want {
			t.Errorf("Compare(%v, %v) = %d, %d", x, y, got, e)
		}
		if got, e := monzo.Compare(c.p, y, x); e != api.OK || got != -want {
			t.Errorf("Compare(%v, %v) = %d, %d", y, x, got, e)
		}
	}
}

// P12.6

func TestHeights(t *testing.T) {
	for _, p := range lists() {
		for _, x := range rows(len(p)) {
			q := standard(p, x)
			num, den := q.Num(), q.Denom()
			for name, c := range map[string]struct {
				height func(api.Primes, api.Row) (api.Int, api.Errno)
				want   *big.Int
			}{
				"Product": {monzo.Product, new(big.Int).Mul(num, den)},
				"Greater": {monzo.Greater, greater(num, den)},
				"Odd":     {monzo.Odd, greater(odd(num), odd(den))},
			} {
				h, e := c.height(p, x)
				if right := isRight(c.want); right && (e != api.OK || string(h) != c.want.String()) || !right && (e != api.ErrLimit || h != "") {
					t.Errorf("%s(%v, %v) = %s, %d", name, p, x, h, e)
				}
			}
			want := num.Cmp(new(big.Int).Add(den, big.NewInt(1))) == 0
			if is, e := monzo.Superparticular(p, x); e != api.OK || is != want {
				t.Errorf("Superparticular(%v, %v) = %t, %d", p, x, is, e)
			}
		}
	}
}

// greater returns the greater one of two integers.
func greater(a, b *big.Int) *big.Int {
	if a.Cmp(b) < 0 {
		return b
	}
	return a
}

// odd returns the greatest odd divisor.
func odd(n *big.Int) *big.Int {
	return new(big.Int).Rsh(n, n.TrailingZeroBits())
}

// The factor of 2 alone makes sides too long, of which the odd height knows nothing; just one side decides for the greater height.
func TestHeightsAtTheLimit(t *testing.T) {
	five := api.Primes{2, 3, 5}
	if h, e := monzo.Odd(five, api.Row{1000, 400, 0}); e != api.OK || string(h) != new(big.Int).Exp(big.NewInt(3), big.NewInt(400), nil).String() {
		t.Errorf("Odd = %s, %d", h, e)
	}
	for n := 1; n <= api.MaxExponent; n++ {
		power := new(big.Int).Exp(big.NewInt(3), big.NewInt(int64(n)), nil)
		for _, x := range []api.Row{{0, n, 0}, {-1, n, 0}, {1, -n, 0}, {0, -n, 1}} {
			_, e := monzo.Greater(five, x)
			_, f := monzo.Odd(five, x)
			_, g := monzo.Product(five, x)
			q := standard(five, x)
			product := new(big.Int).Mul(q.Num(), q.Denom())
			if (e == api.OK) != isRight(power) || f != e || (g == api.OK) != isRight(product) {
				t.Errorf("the heights of %v: %d, %d, %d", x, e, f, g)
			}
		}
	}
}

// All superparticular intervals over 2 3 5 7, of which there are 23.
func TestSuperparticular(t *testing.T) {
	p := api.Primes{2, 3, 5, 7}
	count := 0
	for n := range 10_000 {
		q := api.Rational{Num: api.Int(fmt.Sprint(n + 2)), Den: api.Int(fmt.Sprint(n + 1))}
		x, e := monzo.Of(p, q)
		if e != api.OK {
			continue
		}
		count++
		is, e := monzo.Superparticular(p, x)
		inverse, _ := monzo.Neg(p, x)
		not, f := monzo.Superparticular(p, inverse)
		if e != api.OK || f != api.OK || !is || not {
			t.Errorf("Superparticular of %v: %t, %t", q, is, not)
		}
	}
	if count != 23 {
		t.Errorf("%d superparticular intervals", count)
	}
	for _, x := range []api.Row{{0, 0, 0, 0}, {2, 0, 0, 0}, {-1, 0, 1, 0}, {0, 1, 0, 0}, {1000, -500, -87, 10}, {1000, 1000, -1000, -1000}} {
		if is, e := monzo.Superparticular(p, x); e != api.OK || is {
			t.Errorf("Superparticular(%v) = %t, %d", x, is, e)
		}
	}
}

// P12.7

func TestGroupAndOrder(t *testing.T) {
	for _, p := range lists() {
		l := rows(len(p))[:min(30, len(rows(len(p))))]
		unison, _ := monzo.Of(p, api.Rational{Num: "1", Den: "1"})
		for i, x := range l {
			sign, _ := monzo.Sign(p, x)
			if c, e := monzo.Compare(p, x, unison); e != api.OK || c != sign {
				t.Errorf("Compare(%v, %v) = %d, %d, not %d", x, unison, c, e, sign)
			}
			inverse, _ := monzo.Neg(p, x)
			if sum, e := monzo.Add(p, x, inverse); e != api.OK || !slices.Equal(sum, unison) {
				t.Errorf("%v and its negative are %v, %d", x, sum, e)
			}
			for name, height := range map[string]func(api.Primes, api.Row) (api.Int, api.Errno){"Product": monzo.Product, "Greater": monzo.Greater, "Odd": monzo.Odd} {
				a, e := height(p, x)
				b, f := height(p, inverse)
				if a != b || e != f {
					t.Errorf("%s of %v and its negative: %s, %s", name, x, a, b)
				}
			}
			for j, y := range l {
				z := l[(3*i+7*j)%len(l)]
				order, _ := monzo.Compare(p, x, y)
				back, _ := monzo.Compare(p, y, x)
				if (order == 0) != slices.Equal(x, y) || back != -order {
					t.Errorf("Compare of %v and %v: %d, %d", x, y, order, back)
				}
				xy, e := monzo.Add(p, x, y)
				yx, f := monzo.Add(p, y, x)
				if e != f || !slices.Equal(xy, yx) {
					t.Errorf("sums of %v and %v", x, y)
				}
				xz, e := monzo.Add(p, x, z)
				yz, f := monzo.Add(p, y, z)
				if e != api.OK || f != api.OK || xy == nil {
					continue
				}
				if c, _ := monzo.Compare(p, xz, yz); c != order {
					t.Errorf("adding %v to %v and %v changes their order", z, x, y)
				}
				first, e := monzo.Add(p, xy, z)
				second, f := monzo.Add(p, x, yz)
				if e != f || !slices.Equal(first, second) {
					t.Errorf("sums of %v, %v and %v", x, y, z)
				}
			}
		}
	}
}

// The examples of the document.
func TestExamples(t *testing.T) {
	p := api.Primes{2, 3, 5}
	fifth := api.Row{-1, 1, 0}
	ninth, _ := monzo.Add(p, fifth, fifth)
	tone, _ := monzo.Sub(p, ninth, api.Row{1, 0, 0})
	narrow, _ := monzo.Sub(p, fifth, api.Row{-4, 4, -1})
	var texts []string
	for _, x := range []api.Row{ninth, tone, narrow} {
		s, _ := monzo.Text(p, x)
		texts = append(texts, s)
	}
	if !slices.Equal(texts, []string{"9/4", "9/8", "40/27"}) {
		t.Errorf("Text = %q", texts)
	}
	if c, e := monzo.Compare(p, fifth, narrow); e != api.OK || c != 1 {
		t.Errorf("Compare = %d, %d", c, e)
	}
}
