package enclosure_test

import (
	"math"
	"math/big"
	"slices"
	"strings"
	"testing"

	"schisma/api"
	"schisma/enclosure"
	"schisma/size"
)

// P14.1

// The lows are those of the definition: of powers of primes.
func TestOfByPowers(t *testing.T) {
	for _, n := range primes() {
		power := big.NewInt(int64(n))
		for bits := range 13 {
			b, e := enclosure.Of(n, bits)
			if e != api.OK || b.Prime != n || b.Bits != bits {
				t.Fatalf("Of(%d, %d) = %v, %d", n, bits, b, e)
			}
			// 2 to the power Low is the greatest one that is at most the power of the prime.
			if integer(b.Low).Int64() != int64(power.BitLen()-1) {
				t.Errorf("Of(%d, %d) = %v", n, bits, b)
			}
			power.Mul(power, power)
		}
	}
}

// The lows are those that series have for the logarithms.
func TestOfBySeries(t *testing.T) {
	for _, n := range primes() {
		for _, bits := range bits(enclosure.MaxBits) {
			want := api.Bounds{Prime: n, Bits: bits, Low: api.Int(low(n, bits).String())}
			if b, e := enclosure.Of(n, bits); e != api.OK || b != want {
				t.Errorf("Of(%d, %d) = %v, %d, not %v", n, bits, b, e, want)
			}
			if e := enclosure.Check(want); e != api.OK {
				t.Errorf("Check(%v) = %d", want, e)
			}
			for _, other := range []int64{-1, 1, 1000} {
				wrong := want
				wrong.Low = api.Int(new(big.Int).Add(integer(want.Low), big.NewInt(other)).String())
				if e := enclosure.Check(wrong); e != api.ErrCertificate {
					t.Errorf("Check(%v) = %d", wrong, e)
				}
			}
		}
	}
}

func TestErrorsOfBounds(t *testing.T) {
	for _, n := range []int{0, 1, 4, 9, 91, 96, 98, 101, -2, -3, math.MaxInt, math.MinInt} {
		for _, bits := range []int{0, 10, -1, 1001} {
			if b, e := enclosure.Of(n, bits); e != api.ErrPrime || b != (api.Bounds{}) {
				t.Errorf("Of(%d, %d) = %v, %d", n, bits, b, e)
			}
			for _, low := range []api.Int{"", "0", "1", "x"} {
				if e := enclosure.Check(api.Bounds{Prime: n, Bits: bits, Low: low}); e != api.ErrPrime {
					t.Errorf("Check of %d with %d bits = %d", n, bits, e)
				}
			}
		}
	}
	for _, n := range []int{2, 3, 97} {
		for _, bits := range []int{-1, 1001, math.MaxInt, math.MinInt} {
			if b, e := enclosure.Of(n, bits); e != api.ErrRange || b != (api.Bounds{}) {
				t.Errorf("Of(%d, %d) = %v, %d", n, bits, b, e)
			}
			for _, low := range []api.Int{"", "1", "x"} {
				if e := enclosure.Check(api.Bounds{Prime: n, Bits: bits, Low: low}); e != api.ErrRange {
					t.Errorf("Check of %d with %d bits = %d", n, bits, e)
				}
			}
		}
		for _, low := range []api.Int{"", "x", "-", "-0", "+1", "01", " 1", "1 ", "1.0", "1" + zeros(api.MaxDigits)} {
			if e := enclosure.Check(api.Bounds{Prime: n, Low: low}); e != api.ErrNumber {
				t.Errorf("Check of %d with %q = %d", n, low, e)
			}
		}
		for _, low := range []api.Int{"0", "-1", "8", "-6", "1" + zeros(api.MaxDigits-1)} {
			if e := enclosure.Check(api.Bounds{Prime: n, Low: low}); e != api.ErrCertificate {
				t.Errorf("Check of %d with %q = %d", n, low, e)
			}
		}
	}
}

// P14.2

func TestEnclose(t *testing.T) {
	for _, p := range lists() {
		for _, s := range samples(len(p)) {
			for _, bits := range []int{0, 1, 5, 31, 50, 63, 64, 200, enclosure.MaxBits} {
				least, greatest := ends(p, s, bits)
				a, b, e := enclosure.Enclose(p, s, bits)
				if e != api.OK || a != ofStandard(least) || b != ofStandard(greatest) {
					t.Errorf("Enclose(%v, %v, %d) = %v, %v, %d", p, s, bits, a, b, e)
				}
			}
		}
	}
	for _, bits := range []int{-1, 1001, math.MaxInt, math.MinInt} {
		for _, s := range []api.Size{integral("-1", "1"), integral("0", "0")} {
			if a, b, e := enclosure.Enclose(api.Primes{2, 3}, s, bits); e != api.ErrRange || a != (api.Rational{}) || b != (api.Rational{}) {
				t.Errorf("Enclose with %d bits = %v, %v, %d", bits, a, b, e)
			}
		}
	}
}

// P14.5

func TestCents(t *testing.T) {
	for _, p := range lists() {
		for _, s := range samples(len(p)) {
			least, greatest := ends(p, s, precision)
			for places := range enclosure.MaxPlaces + 1 {
				want := rounded(least, places)
				if want.Cmp(rounded(greatest, places)) != 0 {
					t.Fatalf("too few digits for %v", s)
				}
				if text, e := enclosure.Cents(p, s, places); e != api.OK || text != written(want, places) {
					t.Errorf("Cents(%v, %v, %d) = %s, %d, not %s", p, s, places, text, e, written(want, places))
				}
			}
		}
	}
}

// Rational numbers of octaves are certain without any bits, and the greater one of two numbers that are equally near counts.
func TestCentsOfOctaves(t *testing.T) {
	for _, c := range []struct {
		num, den int64
		places   int
		want     string
	}{
		{1, 1, 0, "1200"}, {1, 1, 9, "1200.000000000"}, {-1, 1, 1, "-1200.0"}, {0, 1, 0, "0"}, {0, 1, 9, "0.000000000"},
		{1, 2400, 0, "1"}, {-1, 2400, 0, "0"}, {-1, 2399, 0, "-1"}, {-1, 2401, 0, "0"}, {1, 2401, 0, "0"}, {3, 2400, 0, "2"}, {-3, 2400, 0, "-1"}, {-5, 2400, 0, "-2"},
		{1, 24000, 1, "0.1"}, {-1, 24000, 1, "0.0"}, {-3, 24000, 1, "-0.1"}, {-1, 24000, 2, "-0.05"}, {-1, 24000, 0, "0"}, {7, 1200, 3, "7.000"}, {-199, 24000, 1, "-9.9"}, {-199, 24000, 2, "-9.95"}, {199, 24000, 1, "10.0"},
		{1, 1_200_000_000_000, 9, "0.000000001"}, {-1, 1_200_000_000_000, 9, "-0.000000001"}, {1, 2_400_000_000_000, 9, "0.000000001"}, {-1, 2_400_000_000_000, 9, "0.000000000"},
	} {
		p, s := api.Primes{2, 7}, api.Size{rational(c.num, c.den), rational(0, 1)}
		if text, e := enclosure.Cents(p, s, c.places); e != api.OK || text != c.want {
			t.Errorf("Cents of %d/%d with %d places = %s, %d, not %s", c.num, c.den, c.places, text, e, c.want)
		}
		if bits, e := enclosure.Narrow(p, s, c.places); e != api.OK || bits != 0 {
			t.Errorf("Narrow of %d/%d with %d places = %d, %d", c.num, c.den, c.places, bits, e)
		}
	}
}

func TestNarrow(t *testing.T) {
	for _, p := range lists() {
		for i, s := range samples(len(p)) {
			places := i % (enclosure.MaxPlaces + 1)
			bits, e := enclosure.Narrow(p, s, places)
			if e != api.OK {
				t.Errorf("Narrow(%v, %v, %d) = %d", p, s, places, e)
			}
			for n := range bits + 1 {
				least, greatest := ends(p, s, n)
				if same := rounded(least, places).Cmp(rounded(greatest, places)) == 0; same != (n == bits) {
					t.Errorf("Narrow(%v, %v, %d) = %d; with %d bits: %t", p, s, places, bits, n, same)
				}
			}
		}
	}
}

func TestErrorsOfPlaces(t *testing.T) {
	for _, places := range []int{-1, 10, math.MaxInt, math.MinInt} {
		for _, s := range []api.Size{integral("-1", "1"), integral("0", "0")} {
			if text, e := enclosure.Cents(api.Primes{2, 3}, s, places); e != api.ErrRange || text != "" {
				t.Errorf("Cents with %d places = %s, %d", places, text, e)
			}
			if bits, e := enclosure.Narrow(api.Primes{2, 3}, s, places); e != api.ErrRange || bits != 0 {
				t.Errorf("Narrow with %d places = %d, %d", places, bits, e)
			}
		}
	}
}

// P14.6

// With one bit more, Low is twice as great, or 1 more.
func TestLowsWithMoreBits(t *testing.T) {
	for _, n := range []int{2, 3, 31, 97} {
		before, _ := enclosure.Of(n, 0)
		for bits := 1; bits <= enclosure.MaxBits; bits++ {
			b, e := enclosure.Of(n, bits)
			half, digit := new(big.Int).DivMod(integer(b.Low), big.NewInt(2), new(big.Int))
			if e != api.OK || half.String() != string(before.Low) || n == 2 && digit.Sign() != 0 {
				t.Fatalf("Of(%d, %d) = %v behind %v", n, bits, b, before)
			}
			before = b
		}
	}
}

// With more bits, the enclosure lies within that with fewer.
func TestEnclosuresWithMoreBits(t *testing.T) {
	for _, p := range lists() {
		for _, s := range samples(len(p)) {
			var low, high *big.Rat
			for _, bits := range bits(200) {
				a, b, _ := enclosure.Enclose(p, s, bits)
				least, greatest := standard(a), standard(b)
				if least.Cmp(greatest) > 0 || low != nil && (least.Cmp(low) < 0 || greatest.Cmp(high) > 0) {
					t.Errorf("Enclose(%v, %v, %d) = %v, %v, which is not within %v, %v", p, s, bits, a, b, low, high)
				}
				low, high = least, greatest
			}
		}
	}
}

// The cents of a size and of its negative are opposite, but for those that are equally near to two numbers.
func TestCentsOfNegatives(t *testing.T) {
	for _, p := range lists() {
		for _, s := range samples(len(p)) {
			for _, places := range []int{0, 1, 9} {
				text, _ := enclosure.Cents(p, s, places)
				other, e := enclosure.Cents(p, negative(s), places)
				opposite := strings.TrimPrefix("-"+text, "--")
				if strings.Trim(opposite, "-0.") == "" {
					opposite = text
				}
				if e != api.OK || other != opposite && !isBetween(p, s, places) {
					t.Errorf("Cents of %v and its negative: %s, %s", s, text, other)
				}
			}
		}
	}
}

// isBetween reports whether the cents of a size are half of an odd number, times 1 / 10^places.
func isBetween(p api.Primes, s api.Size, places int) bool {
	if slices.ContainsFunc(s[1:], func(x api.Rational) bool { return x.Num != "0" }) || p[0] != 2 {
		return false
	}
	x := new(big.Rat).Mul(standard(s[0]), big.NewRat(2400, 1))
	for range places {
		x.Mul(x, big.NewRat(10, 1))
	}
	return x.IsInt() && x.Num().Bit(0) == 1
}

// The examples of the document.
func TestExamples(t *testing.T) {
	p := api.Primes{2, 3}
	for _, c := range []api.Bounds{{Prime: 3, Bits: 0, Low: "1"}, {Prime: 3, Bits: 3, Low: "12"}, {Prime: 3, Bits: 7, Low: "202"}, {Prime: 3, Bits: 9, Low: "811"}} {
		if b, e := enclosure.Of(c.Prime, c.Bits); e != api.OK || b != c {
			t.Errorf("Of(%d, %d) = %v, %d", c.Prime, c.Bits, b, e)
		}
	}
	comma := integral("-19", "12")
	a, b, _ := enclosure.Enclose(p, comma, 7)
	c, _, _ := enclosure.Enclose(p, comma, 9)
	if a != rational(-1, 16) || b != rational(1, 32) || c != rational(1, 128) {
		t.Errorf("Enclose = %v, %v, %v", a, b, c)
	}
	third, _ := size.Of(api.Primes{2, 3, 5}, api.Row{-4, 4, -1})
	if text, e := enclosure.Cents(api.Primes{2, 3, 5}, third, 1); e != api.OK || text != "21.5" {
		t.Errorf("Cents = %s, %d", text, e)
	}
	for places, want := range map[int]string{0: "702", 1: "702.0", 3: "701.955"} {
		if text, e := enclosure.Cents(p, integral("-1", "1"), places); e != api.OK || text != want {
			t.Errorf("Cents = %s, %d, not %s", text, e, want)
		}
	}
}
