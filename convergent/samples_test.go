package convergent_test

import (
	"math/big"
	"math/rand/v2"
	"slices"
	"strings"
	"testing"

	"schisma/api"
	"schisma/convergent"
)

// rational returns a fraction in lowest terms.
func rational(num, den int) api.Rational {
	return ofStandard(big.NewRat(int64(num), int64(den)))
}

// ofStandard returns the fraction that one of the standard library is.
func ofStandard(x *big.Rat) api.Rational {
	return api.Rational{Num: api.Int(x.Num().String()), Den: api.Int(x.Denom().String())}
}

// standard returns what a fraction is in the standard library.
func standard(t *testing.T, x api.Rational) *big.Rat {
	t.Helper()
	num, first := new(big.Int).SetString(string(x.Num), 10)
	den, second := new(big.Int).SetString(string(x.Den), 10)
	if !first || !second || den.Sign() <= 0 || ofStandard(new(big.Rat).SetFrac(num, den)) != x {
		t.Fatalf("%v is not in lowest terms", x)
	}
	return new(big.Rat).SetFrac(num, den)
}

// allStandard returns what the fractions of a list are in the standard library.
func allStandard(t *testing.T, l []api.Rational) []*big.Rat {
	t.Helper()
	var out []*big.Rat
	for _, x := range l {
		out = append(out, standard(t, x))
	}
	return out
}

// allOfStandard returns the fractions that those of the standard library are.
func allOfStandard(l []*big.Rat) []api.Rational {
	var out []api.Rational
	for _, x := range l {
		out = append(out, ofStandard(x))
	}
	return out
}

// smallSamples returns all fractions with small denominators between -3 and 4, and some others.
func smallSamples() []api.Rational {
	var l []api.Rational
	for den := 1; den <= 11; den++ {
		for num := -3 * den; num <= 4*den; num++ {
			if x := big.NewRat(int64(num), int64(den)); x.Denom().Int64() == int64(den) {
				l = append(l, ofStandard(x))
			}
		}
	}
	return append(l, rational(355, 113), rational(-355, 113), rational(144, 233), rational(-144, 233), rational(1, 50), rational(-1, 50), rational(49, 50), rational(-49, 50), rational(1000, 33), rational(2, 99))
}

// longSamples returns fractions with integers of up to the most digits.
func longSamples() []api.Rational {
	r := rand.New(rand.NewPCG(21, 22))
	nines, power := strings.Repeat("9", api.MaxDigits), "1"+strings.Repeat("0", api.MaxDigits-1)
	l := []api.Rational{
		{Num: api.Int(nines), Den: "1"}, {Num: api.Int("-" + nines), Den: "1"}, {Num: "1", Den: api.Int(nines)}, {Num: "-1", Den: api.Int(power)},
		{Num: api.Int(nines), Den: api.Int(power)}, {Num: api.Int("-" + power), Den: api.Int(nines)}, {Num: api.Int(nines), Den: "10"}, {Num: api.Int("-" + nines), Den: "1000000"},
		{Num: "500000000000000000", Den: "999999999999999999"}, {Num: "9223372036854775807", Den: "9223372036854775808"},
	}
	for _, digits := range []int{13, 19, 40, 150, api.MaxDigits} {
		for _, shorter := range []int{0, 1, 7, digits / 2} {
			x := new(big.Rat).SetFrac(randomInt(r, digits), randomInt(r, digits-shorter))
			l = append(l, ofStandard(x), ofStandard(x.Neg(x)), ofStandard(x.Inv(x)))
		}
	}
	return l
}

// randomInt returns an integer of up to so many digits, greater than 0.
func randomInt(r *rand.Rand, digits int) *big.Int {
	text := []byte("1")
	for range digits - 1 {
		text = append(text, byte('0'+r.IntN(10)))
	}
	n, _ := new(big.Int).SetString(string(text), 10)
	return n
}

// golden returns the fraction whose terms are first, then so many times 1, and then 2.
func golden(first, ones int) api.Rational {
	x := big.NewRat(2, 1)
	for range ones {
		x.Inv(x).Add(x, big.NewRat(1, 1))
	}
	x.Inv(x).Add(x, big.NewRat(int64(first), 1))
	return ofStandard(x)
}

// wrongFractions returns fractions that are not right.
func wrongFractions() []api.Rational {
	long := api.Int(strings.Repeat("7", api.MaxDigits+1))
	return []api.Rational{
		{}, {Num: "1"}, {Den: "1"}, {Num: "1", Den: "0"}, {Num: "0", Den: "0"}, {Num: "0", Den: "2"}, {Num: "2", Den: "4"}, {Num: "1", Den: "-2"}, {Num: "-1", Den: "-2"},
		{Num: "01", Den: "2"}, {Num: "1", Den: "02"}, {Num: "-0", Den: "1"}, {Num: "+1", Den: "2"}, {Num: "x", Den: "2"}, {Num: "1", Den: "\xff"}, {Num: "-", Den: "1"},
		{Num: long, Den: "1"}, {Num: "-" + long, Den: "1"}, {Num: "1", Den: long}, {Num: long, Den: long},
	}
}

// floorOf returns the floor of a number of the standard library.
func floorOf(x *big.Rat) *big.Int {
	quotient, _ := new(big.Int).DivMod(x.Num(), x.Denom(), new(big.Int)) // for positive denominators, Euclid's division is that by the floor
	return quotient
}

// termsOf returns the continued fraction by its definition.
func termsOf(x *big.Rat) []*big.Int {
	floor := floorOf(x)
	rest := new(big.Rat).Sub(x, new(big.Rat).SetInt(floor))
	if rest.Sign() == 0 {
		return []*big.Int{floor}
	}
	return append([]*big.Int{floor}, termsOf(rest.Inv(rest))...)
}

// valueOf returns the value of terms by its definition.
func valueOf(terms []*big.Int) *big.Rat {
	first := new(big.Rat).SetInt(terms[0])
	if len(terms) == 1 {
		return first
	}
	behind := valueOf(terms[1:])
	return first.Add(first, behind.Inv(behind))
}

// texts returns the integers of a list of those of the standard library.
func texts(l []*big.Int) []api.Int {
	var out []api.Int
	for _, n := range l {
		out = append(out, api.Int(n.String()))
	}
	return out
}

// semiconvergentsOf returns the semiconvergents by their definition, as long as their denominators are at most the bound, and there are not too many for a list.
func semiconvergentsOf(x *big.Rat, bound int) []*big.Rat {
	terms := termsOf(x)
	p, q := []*big.Int{big.NewInt(1), terms[0]}, []*big.Int{big.NewInt(0), big.NewInt(1)}
	l := []*big.Rat{new(big.Rat).SetInt(terms[0])}
	for _, a := range terms[1:] {
		last := len(p) - 1
		num, den := p[last-1], q[last-1]
		for j := big.NewInt(1); j.Cmp(a) <= 0; j.Add(j, big.NewInt(1)) {
			num, den = new(big.Int).Add(num, p[last]), new(big.Int).Add(den, q[last])
			if den.Cmp(big.NewInt(int64(bound))) > 0 || len(l) > convergent.MaxTerms {
				return l
			}
			l = append(l, new(big.Rat).SetFrac(num, den))
		}
		p, q = append(p, num), append(q, den)
	}
	return l
}

// distance returns the magnitude of the difference.
func distance(x, y *big.Rat) *big.Rat {
	d := new(big.Rat).Sub(x, y)
	return d.Abs(d)
}

// ofDenominator returns the fraction in lowest terms with a denominator that is nearest to x; of two, the lesser one.
func ofDenominator(x *big.Rat, den int64) *big.Rat {
	d := big.NewInt(den)
	floor := floorOf(new(big.Rat).Mul(x, new(big.Rat).SetInt(d)))
	var nearest *big.Rat
	for offset := -den; offset <= den+1; offset++ {
		y := new(big.Rat).SetFrac(new(big.Int).Add(floor, big.NewInt(offset)), d)
		if y.Denom().Cmp(d) == 0 && (nearest == nil || distance(x, y).Cmp(distance(x, nearest)) < 0) {
			nearest = y
		}
	}
	return nearest
}

// bestOf returns the best approximations by their definition.
func bestOf(x *big.Rat, bound int) []*big.Rat {
	var l []*big.Rat
	var least *big.Rat
	for den := range int64(bound) {
		y := ofDenominator(x, den+1)
		d := distance(x, y)
		if least == nil || d.Cmp(least) < 0 {
			l, least = append(l, y), d
		}
	}
	return l
}

// nearestOf returns the nearest fraction of a bound by its definition.
func nearestOf(x *big.Rat, bound int) *big.Rat {
	var nearest *big.Rat
	for den := range int64(bound) {
		if y := ofDenominator(x, den+1); nearest == nil || distance(x, y).Cmp(distance(x, nearest)) < 0 {
			nearest = y
		}
	}
	return nearest
}

// neighboursOf returns the neighbours by their definition.
func neighboursOf(x *big.Rat, bound int) (below, above *big.Rat) {
	for n := range int64(bound) {
		den := big.NewInt(n + 1)
		floor := floorOf(new(big.Rat).Mul(x, new(big.Rat).SetInt(den)))
		for offset := int64(-1); offset <= 1; offset++ {
			y := new(big.Rat).SetFrac(new(big.Int).Add(floor, big.NewInt(offset)), den)
			if y.Cmp(x) < 0 && (below == nil || y.Cmp(below) > 0) {
				below = y
			}
			if y.Cmp(x) > 0 && (above == nil || y.Cmp(above) < 0) {
				above = y
			}
		}
	}
	return below, above
}

// simplestOf returns the simplest fraction of a small range by its definition.
func simplestOf(low, high *big.Rat) *big.Rat {
	var simplest *big.Rat
	for den := int64(1); simplest == nil; den++ {
		times := new(big.Rat).SetInt64(den)
		last := floorOf(new(big.Rat).Mul(high, times)).Int64()
		for num := last; low.Cmp(big.NewRat(num, den)) <= 0; num-- {
			y := big.NewRat(num, den)
			if simplest == nil || new(big.Rat).Abs(y).Cmp(new(big.Rat).Abs(simplest)) < 0 {
				simplest = y // of two with the same magnitude, the first one is positive
			}
		}
	}
	return simplest
}

// wayOf returns the way to x by its definition, from mediant to mediant.
func wayOf(x *big.Rat) string {
	a, b, c, d := big.NewInt(0), big.NewInt(1), big.NewInt(1), big.NewInt(0)
	way := ""
	for {
		num, den := new(big.Int).Add(a, c), new(big.Int).Add(b, d)
		switch x.Cmp(new(big.Rat).SetFrac(num, den)) {
		case 0:
			return way
		case -1:
			c, d, way = num, den, way+"L"
		case 1:
			a, b, way = num, den, way+"R"
		}
	}
}

// short returns as much of a fraction as a message should show.
func short(x api.Rational) string {
	cut := func(n api.Int) string { return string(n[:min(len(n), 30)]) }
	return cut(x.Num) + "/" + cut(x.Den)
}

// ints returns integers of texts.
func ints(text string) []api.Int {
	var out []api.Int
	for _, word := range strings.Fields(text) {
		out = append(out, api.Int(word))
	}
	return out
}

// expectList checks a list that is a result: the one that is wanted, or ErrLimit if it is too long.
func expectList[T comparable](t *testing.T, what string, got []T, e api.Errno, want []T) {
	t.Helper()
	if len(want) > convergent.MaxTerms {
		if got != nil || e != api.ErrLimit {
			t.Errorf("%s: %d of them, %d, not ErrLimit", what, len(got), e)
		}
		return
	}
	if e != api.OK || !slices.Equal(got, want) {
		t.Errorf("%s = %v, %d, not %v", what, got, e, want)
	}
}
