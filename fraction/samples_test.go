package fraction_test

import (
	"math/big"
	"math/rand/v2"
	"strings"
	"testing"

	"schisma/api"
	"schisma/fraction"
)

// rational returns a fraction in lowest terms.
func rational(num, den int) api.Rational {
	return ofStandard(big.NewRat(int64(num), int64(den)))
}

// ofStandard returns the fraction that one of the standard library is.
func ofStandard(x *big.Rat) api.Rational {
	return api.Rational{Num: api.Int(x.Num().String()), Den: api.Int(x.Denom().String())}
}

// standard returns what a fraction is in the standard library.
func standard(t *testing.T, x api.Rational) *big.Rat {
	t.Helper()
	num, first := new(big.Int).SetString(string(x.Num), 10)
	den, second := new(big.Int).SetString(string(x.Den), 10)
	if !first || !second || den.Sign() <= 0 || ofStandard(new(big.Rat).SetFrac(num, den)) != x {
		t.Fatalf("%v is not in lowest terms", x)
	}
	return new(big.Rat).SetFrac(num, den)
}

// samples returns fractions of both signs, among them those at the edges of 18 digits and of 64 bits, the longest right ones, and results that are longer.
func samples() []api.Rational {
	integers := []string{
		"1", "2", "3", "4", "12", "99", "1000000", "999999999", "1000000000", "2147483648",
		"999999999999999999", "1000000000000000000", "4611686018427387904", "9223372036854775807", "9223372036854775808", "18446744073709551616",
		"340282366920938463463374607431768211457",
		strings.Repeat("9", api.MaxDigits), strings.Repeat("7", 2*api.MaxDigits),
	}
	l := []api.Rational{{Num: "0", Den: "1"}}
	for i, num := range integers {
		for j, den := range integers {
			if (i+2*j)%7 != 0 && i != j && j > 0 {
				continue // a choice is enough for all pairs of them
			}
			x, _ := new(big.Rat).SetString(num + "/" + den)
			l = append(l, ofStandard(x), ofStandard(new(big.Rat).Neg(x)))
		}
	}
	return append(l, rational(1, 2), rational(-1, 2), rational(5, 2), rational(-5, 2), rational(7, 10), rational(-7, 3))
}

// random returns a fraction of integers with up to so many digits.
func random(r *rand.Rand, most int) api.Rational {
	digits := func() *big.Int {
		n := new(big.Int)
		for range 1 + r.IntN(most) {
			n.Mul(n, big.NewInt(10)).Add(n, big.NewInt(r.Int64N(10)))
		}
		return n
	}
	x := new(big.Rat).SetFrac(digits(), new(big.Int).Add(digits(), big.NewInt(1)))
	if r.IntN(2) == 0 {
		x.Neg(x)
	}
	return ofStandard(x)
}

// forEachPair calls a function with all pairs of samples, and with what they are in the standard library.
func forEachPair(t *testing.T, f func(a, b api.Rational, p, q *big.Rat)) {
	t.Helper()
	l := samples()
	standards := make([]*big.Rat, len(l))
	for i, x := range l {
		standards[i] = standard(t, x)
	}
	for i, a := range l {
		for j, b := range l {
			f(a, b, standards[i], standards[j])
		}
	}
}

// short returns the text of a fraction, or the beginning of a long one.
func short(x api.Rational) string {
	s := fraction.Text(x)
	return s[:min(len(s), 60)]
}
