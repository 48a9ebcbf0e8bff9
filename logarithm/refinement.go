package logarithm

import (
	"iter"
	"strings"

	"schisma/api"
	"schisma/number"
)

// firstDigits is the number of decimal digits to which logarithms are calculated if those of the table do not decide.
const firstDigits = 40

// lows has the greatest integers that are at most 2 to the power 40, times the binary logarithms of primes. With so many digits their multiples that are needed most often fit in an int.
var lows = [api.MaxPrime + 1]int{
	2: 1099511627776, 3: 1742684699131, 5: 2552986939188, 7: 3086719380096, 11: 3803685290187,
	13: 4068676497980, 17: 4494212922057, 19: 4670645694980, 23: 4973708969649, 29: 5341406591657,
	31: 5447196449555, 37: 5727854549865, 41: 5890690725492, 43: 5966241193186, 47: 6107335029934,
	53: 6297915142768, 59: 6468034434829, 61: 6520914663935, 67: 6669735600034, 71: 6761718465777,
	73: 6805784076382, 79: 6931080231571, 83: 7009429982296, 89: 7120144205725, 97: 7256680912292,
}

// refinements yields functions that enclose the logarithms of primes, to the same base and at the same scale, ever more narrowly.
func refinements() iter.Seq[func(n int) bounds] {
	return func(yield func(log func(n int) bounds) bool) {
		if !yield(tabulated) {
			return
		}
		for digits := firstDigits; yield(newSeries(digits).of); digits *= 2 {
		}
	}
}

// tabulated encloses the logarithm of a prime by the table.
func tabulated(n int) bounds {
	return bounds{number.Of(lows[n]), number.Of(lows[n] + 1)}
}

// series calculates natural logarithms, at the scale of a power of ten, and keeps those that were found.
type series struct {
	scale number.Number
	found map[int]bounds
}

// newSeries returns one for so many digits.
func newSeries(digits int) *series {
	return &series{number.From(api.Int("1" + strings.Repeat("0", digits))), map[int]bounds{}}
}

// of encloses the logarithm of a number greater than 1.
func (s *series) of(n int) bounds {
	if b, is := s.found[n]; is {
		return b
	}
	b := s.calculate(n)
	s.found[n] = b
	return b
}

// calculate finds the logarithm of a number by those of lesser ones. The square of an odd prime n is (n - 1) (n + 1), but for a factor whose logarithm is twice the inverse hyperbolic tangent of 1 / (2 n n - 1).
func (s *series) calculate(n int) bounds {
	if n == 2 {
		part := s.tangent(3)
		return part.add(part)
	}
	for divisor := 2; divisor*divisor <= n; divisor++ {
		if n%divisor == 0 {
			return s.of(divisor).add(s.of(n / divisor))
		}
	}
	return s.of(n - 1).add(s.of(n + 1)).half().add(s.tangent(2*n*n - 1))
}

// tangent encloses the inverse hyperbolic tangent of 1 / m, for m greater than 2: the sum of all 1 / (k m^k) with odd k.
func (s *series) tangent(m int) bounds {
	square := number.Of(m * m)
	power := s.scale.Quotient(number.Of(m))
	var low number.Number
	terms := 0
	for k := 1; !power.IsZero(); k += 2 {
		low = low.Add(power.Quotient(number.Of(k)))
		power = power.Quotient(square)
		terms++
	}
	// By dividing downward no power is too low by more than 9/8, and no term by more than 17/8; those that are left out are less than 81/64 together.
	return bounds{low, low.Add(number.Of(3*terms + 2))}
}
