package enclosure_test

import (
	"math"
	"math/rand/v2"
	"slices"
	"testing"

	"schisma/api"
	"schisma/enclosure"
	"schisma/size"
)

// areEqual reports whether proofs are equal.
func areEqual(a, b api.Comparison) bool {
	return a.Sign == b.Sign && a.Bits == b.Bits && slices.Equal(a.Bounds, b.Bounds)
}

// P14.3

// The proofs have the least number of bits whose enclosure decides, and the sign of the real number.
func TestDecide(t *testing.T) {
	for _, p := range lists() {
		for _, s := range samples(len(p)) {
			c, e := enclosure.Decide(p, s)
			want, _ := size.Sign(p, s)
			if e != api.OK || c.Sign != want || !areEqual(c, proof(p, s, want, c.Bits)) {
				t.Errorf("Decide(%v, %v) = %v, %d", p, s, c, e)
			}
			if isZero(s) {
				if c.Bits != 0 || c.Bounds != nil {
					t.Errorf("Decide(%v, %v) = %v", p, s, c)
				}
				continue
			}
			f := common(s)
			for bits := range c.Bits + 1 {
				if decided := f.sign(p, bits); (decided != 0) != (bits == c.Bits) {
					t.Errorf("Decide(%v, %v) = %v; %d bits decide %d", p, s, c, bits, decided)
				}
			}
		}
	}
}

// Some proofs need many bits: more than 500 (TestDecide shows that fewer are not enough).
func TestDecideNearZero(t *testing.T) {
	for n, want := range map[int][]int{2: {9, 10, 18, 38, 186, 192}, 3: {8, 285}, 6: {568, 573}} {
		for i, s := range nearZero(n) {
			p := api.Primes{2, 3, 5, 7, 11, 13}[:n]
			c, e := enclosure.Decide(p, s)
			if e != api.OK || c.Bits != want[i] {
				t.Errorf("Decide(%v) = %d, %d bits", s, e, c.Bits)
			}
			other, e := enclosure.Decide(p, negative(s))
			if e != api.OK || !areEqual(other, proof(p, s, -c.Sign, c.Bits)) {
				t.Errorf("Decide of the negative of %v = %v, %d", s, other, e)
			}
		}
	}
}

func TestOrder(t *testing.T) {
	r := rand.New(rand.NewPCG(14, 3))
	for _, p := range lists() {
		l := samples(len(p))
		for _, a := range l {
			for _, b := range []api.Size{a, l[0], l[r.IntN(len(l))], l[r.IntN(len(l))]} {
				c, e := enclosure.Order(p, a, b)
				difference, f := size.Sub(p, a, b)
				if f != api.OK {
					if f != api.ErrLimit || e != f || !areEqual(c, api.Comparison{}) {
						t.Errorf("Order(%v, %v, %v) = %v, %d", p, a, b, c, e)
					}
					continue
				}
				want, _ := enclosure.Decide(p, difference)
				order, _ := size.Compare(p, a, b)
				if e != api.OK || !areEqual(c, want) || c.Sign != order {
					t.Errorf("Order(%v, %v, %v) = %v, %d", p, a, b, c, e)
				}
			}
		}
	}
	// The difference has numbers that are too long.
	nines := api.Int("999999999999999999999999999999")
	if c, e := enclosure.Order(api.Primes{2}, integral(nines), integral("-1")); e != api.ErrLimit || !areEqual(c, api.Comparison{}) {
		t.Errorf("Order = %v, %d", c, e)
	}
}

// P14.4, P14.6

// Proofs with more bits prove too, and those with fewer do not.
func TestVerify(t *testing.T) {
	for _, p := range lists() {
		for _, s := range samples(len(p)) {
			c, _ := enclosure.Decide(p, s)
			if e := enclosure.Verify(p, s, c); e != api.OK {
				t.Errorf("Verify(%v, %v, %v) = %d", p, s, c, e)
			}
			for _, other := range []int{-1, 0, 1, 2, -2, math.MaxInt, math.MinInt} {
				if other == c.Sign {
					continue
				}
				wrong := c
				wrong.Sign = other
				if e := enclosure.Verify(p, s, wrong); e != api.ErrCertificate {
					t.Errorf("Verify(%v, %v, %v) = %d", p, s, wrong, e)
				}
			}
			if isZero(s) {
				continue
			}
			for _, bits := range []int{0, c.Bits / 2, c.Bits - 1, c.Bits, c.Bits + 1, c.Bits + 64, enclosure.MaxBits} {
				if bits < 0 {
					continue
				}
				want := api.OK
				if bits < c.Bits {
					want = api.ErrCertificate
				}
				if e := enclosure.Verify(p, s, proof(p, s, c.Sign, bits)); e != want {
					t.Errorf("Verify(%v, %v) with %d bits, of which %d decide: %d", p, s, bits, c.Bits, e)
				}
			}
		}
	}
}

// wrongProofs returns what is no proof of the size -4 4 -1 over 2 3 5 7 with a 0 behind it, of which 12 bits decide.
func wrongProofs() map[string]api.Comparison {
	two, three, five, seven := bounds(2, 12), bounds(3, 12), bounds(5, 12), bounds(7, 12)
	great, less := three, three
	great.Low, less.Low = "6493", "6491"
	return map[string]api.Comparison{
		"nothing":               {},
		"without bounds":        {Sign: 1, Bits: 12},
		"one too few":           {Sign: 1, Bits: 12, Bounds: []api.Bounds{two, three}},
		"the first one missing": {Sign: 1, Bits: 12, Bounds: []api.Bounds{three, five}},
		"one too many":          {Sign: 1, Bits: 12, Bounds: []api.Bounds{two, three, five, seven}},
		"one twice":             {Sign: 1, Bits: 12, Bounds: []api.Bounds{two, three, three}},
		"one more, twice":       {Sign: 1, Bits: 12, Bounds: []api.Bounds{two, three, five, five}},
		"the wrong order":       {Sign: 1, Bits: 12, Bounds: []api.Bounds{three, two, five}},
		"another prime":         {Sign: 1, Bits: 12, Bounds: []api.Bounds{two, three, seven}},
		"no prime":              {Sign: 1, Bits: 12, Bounds: []api.Bounds{two, three, {Prime: 4, Bits: 12, Low: "8192"}}},
		"other bits":            {Sign: 1, Bits: 13, Bounds: []api.Bounds{two, three, five}},
		"no bits":               {Sign: 1, Bits: 0, Bounds: []api.Bounds{two, three, five}},
		"different bits":        {Sign: 1, Bits: 12, Bounds: []api.Bounds{two, bounds(3, 13), five}},
		"all with other bits":   {Sign: 1, Bits: 12, Bounds: []api.Bounds{bounds(2, 13), bounds(3, 13), bounds(5, 13)}},
		"too many bits":         {Sign: 1, Bits: 1001, Bounds: []api.Bounds{{Prime: 2, Bits: 1001, Low: "1"}, {Prime: 3, Bits: 1001, Low: "1"}, {Prime: 5, Bits: 1001, Low: "1"}}},
		"bits less than 0":      {Sign: 1, Bits: -1, Bounds: []api.Bounds{{Prime: 2, Bits: -1, Low: "0"}, {Prime: 3, Bits: -1, Low: "0"}, {Prime: 5, Bits: -1, Low: "1"}}},
		"too great a low":       {Sign: 1, Bits: 12, Bounds: []api.Bounds{two, great, five}},
		"too small a low":       {Sign: 1, Bits: 12, Bounds: []api.Bounds{two, less, five}},
		"another low of 2":      {Sign: 1, Bits: 12, Bounds: []api.Bounds{{Prime: 2, Bits: 12, Low: "4095"}, three, five}},
		"no low":                {Sign: 1, Bits: 12, Bounds: []api.Bounds{two, {Prime: 3, Bits: 12}, five}},
		"a low with a 0":        {Sign: 1, Bits: 12, Bounds: []api.Bounds{two, {Prime: 3, Bits: 12, Low: "06492"}, five}},
		"the sign 0":            {Sign: 0, Bits: 12, Bounds: []api.Bounds{two, three, five}},
		"the other sign":        {Sign: -1, Bits: 12, Bounds: []api.Bounds{two, three, five}},
		"the sign 0, undecided": {Sign: 0, Bits: 2, Bounds: []api.Bounds{bounds(2, 2), bounds(3, 2), bounds(5, 2)}},
		"too few bits":          {Sign: 1, Bits: 2, Bounds: []api.Bounds{bounds(2, 2), bounds(3, 2), bounds(5, 2)}},
	}
}

// bounds returns right bounds.
func bounds(prime, bits int) api.Bounds {
	return api.Bounds{Prime: prime, Bits: bits, Low: api.Int(low(prime, bits).String())}
}

func TestWrongProofs(t *testing.T) {
	p, s := api.Primes{2, 3, 5, 7}, integral("-4", "4", "-1", "0")
	if e := enclosure.Verify(p, s, proof(p, s, 1, 12)); e != api.OK {
		t.Errorf("Verify: %d", e)
	}
	for name, c := range wrongProofs() {
		if e := enclosure.Verify(p, s, c); e != api.ErrCertificate {
			t.Errorf("Verify with %s: %d", name, e)
		}
	}
	// A proof of another size with the same primes.
	if e := enclosure.Verify(p, negative(s), proof(p, s, 1, 12)); e != api.ErrCertificate {
		t.Errorf("Verify of the negative: %d", e)
	}
}

// Only the proof without anything proves that a size is 0, and it proves nothing else.
func TestProofsOfZero(t *testing.T) {
	p, zero := api.Primes{2, 3}, integral("0", "0")
	for _, c := range []api.Comparison{{}, {Bounds: []api.Bounds{}}} {
		if e := enclosure.Verify(p, zero, c); e != api.OK {
			t.Errorf("Verify(%v): %d", c, e)
		}
		for _, s := range []api.Size{integral("1", "0"), integral("0", "-1"), integral("-19", "12")} {
			if e := enclosure.Verify(p, s, c); e != api.ErrCertificate {
				t.Errorf("Verify(%v, %v): %d", s, c, e)
			}
		}
	}
	for _, c := range []api.Comparison{{Sign: 1}, {Sign: -1}, {Bits: 1}, {Bits: -1}, {Bounds: make([]api.Bounds, 1)}, {Bounds: []api.Bounds{bounds(2, 0)}}, {Bounds: []api.Bounds{bounds(2, 0), bounds(3, 0)}}, {Sign: 1, Bounds: []api.Bounds{bounds(2, 0), bounds(3, 0)}}} {
		if e := enclosure.Verify(p, zero, c); e != api.ErrCertificate {
			t.Errorf("Verify(%v): %d", c, e)
		}
	}
}
