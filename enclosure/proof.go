package enclosure

import (
	"schisma/api"
	"schisma/number"
	"schisma/size"
)

// Decide returns a proof of the sign of a size.
func Decide(p api.Primes, s api.Size) (api.Comparison, api.Errno) {
	if e := size.Check(p, s); e != api.OK {
		return api.Comparison{}, e
	}
	return newCombination(p, s).decide(MaxBits)
}

// Order returns a proof of the order of two sizes: of the sign of their difference.
func Order(p api.Primes, a, b api.Size) (api.Comparison, api.Errno) {
	difference, e := size.Sub(p, a, b)
	if e != api.OK {
		return api.Comparison{}, e
	}
	return Decide(p, difference)
}

// Verify returns ErrCertificate if a proof does not prove the sign of a size.
func Verify(p api.Primes, s api.Size, c api.Comparison) api.Errno {
	if e := size.Check(p, s); e != api.OK {
		return e
	}
	if !newCombination(p, s).isProved(c) {
		return api.ErrCertificate
	}
	return api.OK
}

// decide returns a proof with the least number of bits up to a limit.
func (c combination) decide(limit int) (api.Comparison, api.Errno) {
	if len(c.factors) == 0 {
		return api.Comparison{}, api.OK
	}
	sign := 0
	bits, found := c.least(limit, func(low, high number.Number, _ int) bool {
		decided := signOf(low, high)
		if decided != 0 {
			sign = decided // which is the same for all enclosures that decide
		}
		return decided != 0
	})
	if !found {
		return api.Comparison{}, api.ErrLimit
	}
	proof := api.Comparison{Sign: sign, Bits: bits}
	for i, low := range c.lows(bits) {
		proof.Bounds = append(proof.Bounds, api.Bounds{Prime: c.primes[i], Bits: bits, Low: low.Int()})
	}
	return proof, api.OK
}

// isProved reports whether a proof proves the sign.
func (c combination) isProved(proof api.Comparison) bool {
	if len(proof.Bounds) != len(c.factors) {
		return false
	}
	if len(c.factors) == 0 {
		return proof.Sign == 0 && proof.Bits == 0
	}
	lows := make(number.Row, len(proof.Bounds))
	for i, b := range proof.Bounds {
		if b.Prime != c.primes[i] || b.Bits != proof.Bits || Check(b) != api.OK {
			return false
		}
		lows[i] = number.From(b.Low)
	}
	sign := signOf(c.ends(lows))
	return sign != 0 && sign == proof.Sign
}

// signOf returns the sign of a number other than 0 between two ends, or 0 if they do not decide.
func signOf(low, high number.Number) int {
	switch {
	case low.Sign() >= 0:
		return 1
	case high.Sign() <= 0:
		return -1
	}
	return 0
}
