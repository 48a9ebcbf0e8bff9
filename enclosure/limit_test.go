package enclosure

import (
	"testing"

	"schisma/api"
	"schisma/number"
)

// Bounds of too few words are noticed, and never say anything wrong.
func TestFewWords(t *testing.T) {
	const most = 200
	for _, n := range []int{2, 3, 5, 43, 97} {
		want := lowOf(n, most)
		for words := 1; words <= 4; words++ {
			last := -1
			for bits := range most + 1 {
				low, certain := find(n, bits, words)
				if certain && low != want.Quotient(power(most-bits)) {
					t.Fatalf("%d with %d bits and %d words: %s", n, bits, words, low.Int())
				}
				if certain && last < bits-1 {
					t.Errorf("%d is certain with %d bits and %d words, but not with fewer", n, bits, words)
				}
				if certain {
					last = bits
				}
			}
			// For 2 all is exact; for others the bounds move away from each other by a digit or so each time, as soon as a power of the prime has no room.
			enough, tooMany := words*wordLength-8, words*wordLength+8
			if n == 2 && last != most || n > 2 && last < min(enough, most) || n > 2 && most > tooMany && last > tooMany {
				t.Errorf("%d is certain up to %d bits with %d words", n, last, words)
			}
		}
	}
}

// Bounds agree about a digit only if both have it, and if the upper one has room behind it.
func TestNext(t *testing.T) {
	const (
		one  = 1 << 63
		root = 13043817825332782212 // the root of 2, rounded down
	)
	for i, c := range []struct {
		low, high mantissa
		digit     int
		certain   bool
	}{
		{mantissa{one}, mantissa{one}, 0, true}, {mantissa{one}, mantissa{one + 1}, 0, true}, {mantissa{one}, mantissa{1<<64 - 1}, 0, false}, {mantissa{root}, mantissa{root + 1}, 0, false},
		{mantissa{one}, mantissa{root - 1}, 0, true}, {mantissa{root + 1}, mantissa{1<<64 - 1}, 1, true}, {mantissa{3 << 62}, mantissa{3 << 62}, 1, true},
		{mantissa{one}, mantissa{root}, 0, false}, // the square is rounded up to 2
		{mantissa{0, root}, mantissa{1<<64 - 1, root}, 0, false}, {mantissa{0, one}, mantissa{1<<64 - 1, one}, 0, true},
	} {
		d := &digits{c.low, c.high}
		digit, certain := d.next()
		if certain != c.certain || certain && digit != c.digit {
			t.Errorf("%d: next = %d, %t", i, digit, certain)
		}
		if certain && (d.low[len(d.low)-1] < one || d.high[len(d.high)-1] < one) {
			t.Errorf("%d: the bounds are %v, %v", i, d.low, d.high)
		}
	}
}

// limited returns sizes that need so many bits.
func limited() []struct {
	p     api.Primes
	s     api.Size
	least int
} {
	of := func(digits ...api.Int) api.Size {
		var s api.Size
		for _, n := range digits {
			s = append(s, api.Rational{Num: n, Den: "1"})
		}
		return s
	}
	return []struct {
		p     api.Primes
		s     api.Size
		least int
	}{{api.Primes{2, 3}, of("-19", "12"), 9}, {api.Primes{2, 3}, of("19", "-12"), 9}, {api.Primes{2, 3}, of("-40583281278899710574680154882", "25605199656417336413383685835"), 0}}
}

// P14.3, P14.5: these tests have no size that 1000 bits do not decide, so that the errors are those of lesser limits.
func TestLimits(t *testing.T) {
	for i, c := range limited() {
		sum := newCombination(c.p, c.s)
		proof, e := sum.decide(MaxBits)
		if e != api.OK || c.least != 0 && proof.Bits != c.least {
			t.Fatalf("%d: decide = %v, %d", i, proof, e)
		}
		multiple := number.Of(octave)
		want, bits, e := sum.round(multiple, MaxBits)
		if e != api.OK {
			t.Fatalf("%d: round: %d", i, e)
		}
		for limit := range 210 {
			some, e := sum.decide(limit)
			if limit < proof.Bits && (e != api.ErrLimit || some.Sign != 0 || some.Bits != 0 || some.Bounds != nil) || limit >= proof.Bits && (e != api.OK || some.Bits != proof.Bits) {
				t.Errorf("%d: decide(%d) = %v, %d", i, limit, some, e)
			}
			rounded, n, e := sum.round(multiple, limit)
			if limit < bits && (e != api.ErrLimit || n != 0 || !rounded.IsZero()) || limit >= bits && (e != api.OK || n != bits || rounded != want) {
				t.Errorf("%d: round(%d) = %s, %d, %d", i, limit, rounded.Int(), n, e)
			}
		}
	}
}
