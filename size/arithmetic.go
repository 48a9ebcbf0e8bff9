package size

import (
	"schisma/api"
	"schisma/fraction"
)

// Add returns the sum.
func Add(p api.Primes, a, b api.Size) (api.Size, api.Errno) {
	return elementwise(p, a, b, fraction.Add)
}

// Sub returns a less b.
func Sub(p api.Primes, a, b api.Size) (api.Size, api.Errno) {
	return elementwise(p, a, b, fraction.Sub)
}

// elementwise returns the size whose coefficients a function makes of those of two sizes.
func elementwise(p api.Primes, a, b api.Size, of func(x, y api.Rational) api.Rational) (api.Size, api.Errno) {
	if e := check(p, a, b); e != api.OK {
		return nil, e
	}
	s := make(api.Size, len(a))
	for i, x := range a {
		s[i] = of(x, b[i])
	}
	return result(s)
}

// Scale returns k times the size.
func Scale(p api.Primes, a api.Size, k api.Rational) (api.Size, api.Errno) {
	return Combine(p, []api.Size{a}, []api.Rational{k})
}

// Combine returns the sum of sizes, each times its factor.
func Combine(p api.Primes, l []api.Size, factors []api.Rational) (api.Size, api.Errno) {
	if e := check(p, l...); e != api.OK {
		return nil, e
	}
	if len(factors) != len(l) {
		return nil, api.ErrSize
	}
	for _, k := range factors {
		if e := fraction.Check(k); e != api.OK {
			return nil, e
		}
	}
	s := make(api.Size, len(p))
	for j := range s {
		products := make([]api.Rational, len(l))
		for i, a := range l {
			products[i] = fraction.Mul(a[j], factors[i])
		}
		s[j] = fraction.Sum(products)
	}
	return result(s)
}

// Remainder returns a less as many times b as there are in a.
func Remainder(p api.Primes, a, b api.Size) (api.Size, api.Errno) {
	times, e := Floor(p, a, b)
	if e != api.OK {
		return nil, e
	}
	k := api.Rational{Num: times, Den: "1"}
	return elementwise(p, a, b, func(x, y api.Rational) api.Rational {
		return fraction.Sub(x, fraction.Mul(k, y))
	})
}
