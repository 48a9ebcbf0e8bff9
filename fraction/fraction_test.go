package fraction_test

import (
	"math"
	"math/big"
	"math/rand/v2"
	"slices"
	"strings"
	"testing"

	"schisma/api"
	"schisma/fraction"
)

// P3.1

func TestCheck(t *testing.T) {
	longest := api.Int(strings.Repeat("9", api.MaxDigits))
	power := api.Int("1" + strings.Repeat("0", api.MaxDigits-1))
	for _, x := range []api.Rational{{Num: "0", Den: "1"}, {Num: "1", Den: "1"}, {Num: "-3", Den: "2"}, {Num: longest, Den: power}, {Num: "-" + longest, Den: power}, {Num: "1", Den: longest}} {
		if e := fraction.Check(x); e != api.OK {
			t.Errorf("Check(%v) = %d", x, e)
		}
	}
	for _, x := range []api.Rational{
		{}, {Num: "1"}, {Den: "1"}, {Num: "1", Den: "0"}, {Num: "0", Den: "0"}, {Num: "0", Den: "2"}, {Num: "0", Den: "-1"},
		{Num: "2", Den: "4"}, {Num: "-2", Den: "4"}, {Num: longest, Den: longest}, {Num: "1", Den: "-2"}, {Num: "-1", Den: "-2"},
		{Num: "01", Den: "1"}, {Num: "1", Den: "01"}, {Num: "-0", Den: "1"}, {Num: "+1", Den: "1"}, {Num: "x", Den: "1"}, {Num: "1", Den: "x"},
		{Num: longest + "0", Den: "1"}, {Num: "-" + longest + "0", Den: "1"}, {Num: "1", Den: longest + "0"},
	} {
		if e := fraction.Check(x); e != api.ErrNumber {
			t.Errorf("Check(%v) = %d", x, e)
		}
	}
}

func TestNewAndOf(t *testing.T) {
	integers := []string{"1", "-1", "6", "-4", "21", "999999999999999999", "-1000000000000000000", "9223372036854775807", "-9223372036854775808", "18446744073709551616", strings.Repeat("6", api.MaxDigits), "-" + strings.Repeat("4", 3*api.MaxDigits)}
	for _, den := range integers {
		for _, num := range append(integers, "0") {
			m, _ := new(big.Int).SetString(num, 10)
			n, _ := new(big.Int).SetString(den, 10)
			want := ofStandard(new(big.Rat).SetFrac(m, n))
			if x, e := fraction.New(api.Int(num), api.Int(den)); x != want || e != api.OK {
				t.Errorf("New(%s, %s) = %s, %d", num, den, short(x), e)
			}
			if m.IsInt64() && n.IsInt64() {
				if x, e := fraction.Of(int(m.Int64()), int(n.Int64())); x != want || e != api.OK {
					t.Errorf("Of(%s, %s) = %s, %d", num, den, short(x), e)
				}
			}
		}
		if x, e := fraction.New(api.Int(den), "0"); x != (api.Rational{}) || e != api.ErrZero {
			t.Errorf("New(%s, 0) = %v, %d", den, x, e)
		}
	}
	for _, num := range []int{0, 5, math.MaxInt, math.MinInt} {
		if x, e := fraction.Of(num, 0); x != (api.Rational{}) || e != api.ErrZero {
			t.Errorf("Of(%d, 0) = %v, %d", num, x, e)
		}
	}
}

func TestSmall(t *testing.T) {
	most := "999999999999999999"
	for _, c := range []struct {
		x        api.Rational
		num, den int
		is       bool
	}{
		{rational(1, 3), 1, 3, true},
		{rational(0, 1), 0, 1, true},
		{rational(-7, 2), -7, 2, true},
		{api.Rational{Num: api.Int(most), Den: "1"}, 999_999_999_999_999_999, 1, true},
		{api.Rational{Num: api.Int("-" + most), Den: "2"}, -999_999_999_999_999_999, 2, true},
		{api.Rational{Num: "1", Den: api.Int(most)}, 1, 999_999_999_999_999_999, true},
		{api.Rational{Num: "1000000000000000000", Den: "1"}, 0, 0, false},
		{api.Rational{Num: "-1000000000000000000", Den: "1"}, 0, 0, false},
		{api.Rational{Num: "1", Den: "1000000000000000000"}, 0, 0, false},
		{api.Rational{Num: "18446744073709551617", Den: "1"}, 0, 0, false},
		{api.Rational{Num: "-1", Den: "18446744073709551617"}, 0, 0, false},
	} {
		if num, den, is := fraction.Small(c.x); num != c.num || den != c.den || is != c.is {
			t.Errorf("Small(%v) = %d, %d, %t", c.x, num, den, is)
		}
	}
}

// P3.2

func TestText(t *testing.T) {
	for _, c := range []struct {
		x    api.Rational
		want string
	}{{rational(0, 1), "0"}, {rational(5, 1), "5"}, {rational(-5, 1), "-5"}, {rational(5, 2), "5/2"}, {rational(-1, 10), "-1/10"}, {rational(1, 11), "1/11"}} {
		if s := fraction.Text(c.x); s != c.want {
			t.Errorf("Text(%v) = %s", c.x, s)
		}
	}
}

func TestParse(t *testing.T) {
	nines := strings.Repeat("9", api.MaxDigits)
	for _, c := range []struct{ s, text string }{
		{"0", "0"}, {"-0", "0"}, {"-0/7", "0"}, {"-0.00", "0"}, {"000", "0"}, {"007", "7"}, {"-007/014", "-1/2"}, {"-06/4", "-3/2"}, {"2.50", "5/2"}, {"-2.5", "-5/2"}, {"0.125", "1/8"}, {"-0.5", "-1/2"}, {"00.50", "1/2"}, {"3.0", "3"}, {"12/4", "3"}, {"1/1", "1"},
		{nines, nines}, {"-" + nines[1:], "-" + nines[1:]}, {"1/" + nines[2:], "1/" + nines[2:]},
		{"0." + strings.Repeat("0", api.MaxDigits-3) + "1", "1/1" + strings.Repeat("0", api.MaxDigits-2)},
	} {
		if x, e := fraction.Parse(c.s); fraction.Text(x) != c.text || e != api.OK || fraction.Check(x) != api.OK {
			t.Errorf("Parse(%q) = %v, %d", c.s, x, e)
		}
	}
}

func TestParseErrors(t *testing.T) {
	nines := strings.Repeat("9", api.MaxDigits)
	for _, s := range []string{"", "-", "1/", "/2", "-/2", "/", ".5", "-.5", "5.", ".", "+1", "--1", "1/-2", "1/+2", "1e2", "1.5/2", "1/2.5", "1.2.3", "1/2/3", " 1", "1 ", "1 /2", "1_0", "1/2x", "x", "１", "1,5", "5/00x", "1.-5", nines[1:] + "x"} {
		if x, e := fraction.Parse(s); x != (api.Rational{}) || e != api.ErrSyntax {
			t.Errorf("Parse(%q) = %v, %d", s, x, e)
		}
	}
	for _, s := range []string{nines + "0", strings.Repeat("0", api.MaxDigits) + "1", nines + "x", nines[1:] + "/0"} {
		if x, e := fraction.Parse(s); x != (api.Rational{}) || e != api.ErrLong {
			t.Errorf("Parse(%q) = %v, %d", s, x, e)
		}
	}
	for _, s := range []string{"5/0", "5/00", "0/0", "-0/000", nines[2:] + "/0"} {
		if x, e := fraction.Parse(s); x != (api.Rational{}) || e != api.ErrZero {
			t.Errorf("Parse(%q) = %v, %d", s, x, e)
		}
	}
}

// P3.3

func TestCompare(t *testing.T) {
	forEachPair(t, func(a, b api.Rational, p, q *big.Rat) {
		want := p.Cmp(q)
		if c := fraction.Compare(a, b); c != want {
			t.Errorf("Compare(%s, %s) = %d", short(a), short(b), c)
		}
		least, greatest := a, b
		if want > 0 {
			least, greatest = b, a
		}
		if fraction.Min(a, b) != least || fraction.Max(a, b) != greatest {
			t.Errorf("Min or Max of %s and %s", short(a), short(b))
		}
	})
	for _, x := range samples() {
		if s := fraction.Sign(x); s != standard(t, x).Sign() {
			t.Errorf("Sign(%s) = %d", short(x), s)
		}
	}
}

// Neighbours in a Farey sequence are as near to each other as fractions of these lengths can be.
func TestCompareNeighbours(t *testing.T) {
	n := 999_999_999_999_999_999
	a, b := rational(n-2, n-1), rational(n-1, n)
	if fraction.Compare(a, b) != -1 || fraction.Compare(b, a) != 1 || fraction.Compare(fraction.Neg(a), fraction.Neg(b)) != 1 || fraction.Compare(a, a) != 0 {
		t.Errorf("comparisons of %v and %v", a, b)
	}
}

// P3.4

func TestArithmetic(t *testing.T) {
	forEachPair(t, func(a, b api.Rational, p, q *big.Rat) {
		if x := fraction.Add(a, b); x != ofStandard(new(big.Rat).Add(p, q)) {
			t.Errorf("Add(%s, %s) = %s", short(a), short(b), short(x))
		}
		if x := fraction.Sub(a, b); x != ofStandard(new(big.Rat).Sub(p, q)) {
			t.Errorf("Sub(%s, %s) = %s", short(a), short(b), short(x))
		}
		if x := fraction.Mul(a, b); x != ofStandard(new(big.Rat).Mul(p, q)) {
			t.Errorf("Mul(%s, %s) = %s", short(a), short(b), short(x))
		}
		x, e := fraction.Div(a, b)
		if q.Sign() == 0 {
			if x != (api.Rational{}) || e != api.ErrZero {
				t.Errorf("Div(%s, 0) = %s, %d", short(a), short(x), e)
			}
		} else if x != ofStandard(new(big.Rat).Quo(p, q)) || e != api.OK {
			t.Errorf("Div(%s, %s) = %s, %d", short(a), short(b), short(x), e)
		}
	})
}

// Products that fit in an int, and sums of them that do not.
func TestAddAtTheEnds(t *testing.T) {
	n := 999_999_999_999_999_999
	for _, a := range []api.Rational{rational(n, 7), rational(-n, 7), rational(n-2, 4), rational(1<<59, 7), rational(-1<<59, 7)} {
		for _, b := range []api.Rational{rational(n-1, 8), rational(1-n, 8), rational(n-2, 5), rational(1<<59-1, 8), rational(1-1<<59, 8)} {
			want := new(big.Rat).Add(standard(t, a), standard(t, b))
			if x := fraction.Add(a, b); x != ofStandard(want) {
				t.Errorf("Add(%v, %v) = %v", a, b, x)
			}
		}
	}
}

func TestNegAbsSum(t *testing.T) {
	total := new(big.Rat)
	l := samples()
	for _, x := range l {
		want := standard(t, x)
		total.Add(total, want)
		if y := fraction.Neg(x); y != ofStandard(new(big.Rat).Neg(want)) {
			t.Errorf("Neg(%s) = %s", short(x), short(y))
		}
		if y := fraction.Abs(x); y != ofStandard(new(big.Rat).Abs(want)) {
			t.Errorf("Abs(%s) = %s", short(x), short(y))
		}
	}
	if x := fraction.Sum(l); x != ofStandard(total) {
		t.Errorf("Sum = %s", short(x))
	}
	if !slices.Equal(l, samples()) {
		t.Error("Sum changed its argument")
	}
	for _, l := range [][]api.Rational{nil, {}, {rational(1, 2), rational(-1, 2)}} {
		if x := fraction.Sum(l); x != rational(0, 1) {
			t.Errorf("Sum(%v) = %v", l, x)
		}
	}
}

// P3.5

func TestIntegersNear(t *testing.T) {
	for _, x := range append(samples(), rational(1, 3), rational(-1, 3), rational(2, 3), rational(-2, 3), rational(-1, 2), rational(3, 2), rational(-3, 2)) {
		want := standard(t, x)
		floor := floorOf(want)
		ceil := new(big.Int).Neg(floorOf(new(big.Rat).Neg(want)))
		nearest := floorOf(new(big.Rat).Add(want, big.NewRat(1, 2)))
		if n := fraction.Floor(x); string(n) != floor.String() {
			t.Errorf("Floor(%s) = %s", short(x), n)
		}
		if n := fraction.Ceil(x); string(n) != ceil.String() {
			t.Errorf("Ceil(%s) = %s", short(x), n)
		}
		if n := fraction.Nearest(x); string(n) != nearest.String() {
			t.Errorf("Nearest(%s) = %s", short(x), n)
		}
		if y := fraction.Rest(x); y != ofStandard(new(big.Rat).Sub(want, new(big.Rat).SetInt(floor))) {
			t.Errorf("Rest(%s) = %s", short(x), short(y))
		}
	}
}

// floorOf returns the greatest integer not greater than a fraction; Div divides downward, as the denominator is greater than 0.
func floorOf(x *big.Rat) *big.Int {
	return new(big.Int).Div(x.Num(), x.Denom())
}

func TestRound(t *testing.T) {
	for _, grid := range []int{1, 2, 3, 12, 1000, 999_983, fraction.MaxGrid} {
		for _, x := range append(samples(), rational(1, 24), rational(-1, 24), rational(1, 2*grid), rational(-1, 2*grid), rational(-3, 2*grid)) {
			scaled := new(big.Rat).Mul(standard(t, x), big.NewRat(int64(grid), 1))
			steps := floorOf(scaled.Add(scaled, big.NewRat(1, 2)))
			want := ofStandard(new(big.Rat).SetFrac(steps, big.NewInt(int64(grid))))
			if y, e := fraction.Round(x, grid); y != want || e != api.OK {
				t.Errorf("Round(%s, %d) = %s, %d", short(x), grid, short(y), e)
			}
		}
	}
	for _, grid := range []int{0, -1, math.MinInt, fraction.MaxGrid + 1, math.MaxInt} {
		if x, e := fraction.Round(rational(1, 2), grid); x != (api.Rational{}) || e != api.ErrRange {
			t.Errorf("Round(1/2, %d) = %v, %d", grid, x, e)
		}
	}
}

// P3.6

func TestFieldAndOrder(t *testing.T) {
	r := rand.New(rand.NewPCG(1, 2))
	one := rational(1, 1)
	for i := range 1000 {
		most := []int{2, 9, 18, 40}[i%4]
		a, b, c := random(r, most), random(r, most), random(r, most)
		sum, product := fraction.Add(a, b), fraction.Mul(a, b)
		if sum != fraction.Add(b, a) || fraction.Add(sum, c) != fraction.Add(a, fraction.Add(b, c)) || fraction.Sum([]api.Rational{c, a, b}) != fraction.Add(sum, c) {
			t.Errorf("sums of %v, %v and %v", a, b, c)
		}
		if product != fraction.Mul(b, a) || fraction.Mul(product, c) != fraction.Mul(a, fraction.Mul(b, c)) || fraction.Mul(sum, c) != fraction.Add(fraction.Mul(a, c), fraction.Mul(b, c)) {
			t.Errorf("products of %v, %v and %v", a, b, c)
		}
		if fraction.Sub(sum, b) != a || fraction.Add(a, fraction.Neg(a)) != rational(0, 1) {
			t.Errorf("differences of %v and %v", a, b)
		}
		if inverse, e := fraction.Div(one, a); e == api.OK && fraction.Mul(a, inverse) != one {
			t.Errorf("the inverse of %v is %v", a, inverse)
		}
		order := fraction.Compare(a, b)
		factor := fraction.Add(fraction.Abs(c), one)
		if fraction.Compare(fraction.Add(a, c), fraction.Add(b, c)) != order || fraction.Compare(fraction.Mul(a, factor), fraction.Mul(b, factor)) != order || fraction.Sign(fraction.Sub(a, b)) != order {
			t.Errorf("the order of %v and %v", a, b)
		}
	}
}

func TestTextAndRoundAgain(t *testing.T) {
	r := rand.New(rand.NewPCG(3, 4))
	for i := range 1000 {
		x := random(r, []int{2, 9, 18, 198}[i%4])
		if y, e := fraction.Parse(fraction.Text(x)); y != x || e != api.OK {
			t.Errorf("Parse(%s) = %v, %d", fraction.Text(x), y, e)
		}
		floor := api.Rational{Num: fraction.Floor(x), Den: "1"}
		rest := fraction.Rest(x)
		if fraction.Add(floor, rest) != x || fraction.Sign(rest) < 0 || fraction.Compare(rest, rational(1, 1)) >= 0 {
			t.Errorf("%v is not %v and %v", x, floor, rest)
		}
		if ceil := (api.Rational{Num: fraction.Ceil(x), Den: "1"}); ceil != fraction.Neg(api.Rational{Num: fraction.Floor(fraction.Neg(x)), Den: "1"}) {
			t.Errorf("Ceil(%v) = %v", x, ceil)
		}
		grid := 1 + r.IntN(100)
		rounded, _ := fraction.Round(x, grid)
		if again, e := fraction.Round(rounded, grid); again != rounded || e != api.OK {
			t.Errorf("Round(%v, %d) = %v, %d", rounded, grid, again, e)
		}
	}
}

// P1

func TestAllArguments(t *testing.T) {
	long := api.Int(strings.Repeat("9", 500))
	integers := []api.Int{"", "0", "3", "-3", "00", "-0", "-", "--1", "+1", "x", "\xff", long, "-" + long, "0" + long, long + "x"}
	var odd []api.Rational
	for _, num := range integers {
		for _, den := range integers {
			odd = append(odd, api.Rational{Num: num, Den: den})
			if x, e := fraction.New(num, den); e != api.OK && x != (api.Rational{}) {
				t.Errorf("New(%q, %q) = %v, %d", num, den, x, e)
			}
		}
	}
	for _, x := range odd {
		fraction.Check(x)
		fraction.Small(x)
		fraction.Sign(x)
		fraction.Neg(x)
		fraction.Abs(x)
		fraction.Floor(x)
		fraction.Ceil(x)
		fraction.Nearest(x)
		fraction.Rest(x)
		fraction.Parse(fraction.Text(x))
		for _, grid := range []int{math.MinInt, 0, 1, 12, math.MaxInt} {
			if y, e := fraction.Round(x, grid); e != api.OK && y != (api.Rational{}) {
				t.Errorf("Round(%v, %d) = %v, %d", x, grid, y, e)
			}
		}
		for _, y := range odd {
			fraction.Compare(x, y)
			fraction.Min(x, y)
			fraction.Max(x, y)
			fraction.Add(x, y)
			fraction.Sub(x, y)
			fraction.Mul(x, y)
			fraction.Sum([]api.Rational{x, y})
			if z, e := fraction.Div(x, y); e != api.OK && z != (api.Rational{}) {
				t.Errorf("Div(%v, %v) = %v, %d", x, y, z, e)
			}
		}
	}
}
