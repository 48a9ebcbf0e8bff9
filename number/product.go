package number

import (
	"schisma/api"
	"schisma/whole"
)

// Sides returns the product of numbers, each to the power of its exponent, as the two sides of a fraction: above, those with exponents greater than 0, and below, those with lesser ones, without the sign. The digits of a number times its exponent are at most 4000.
func Sides(numbers, exponents []int) [2]api.Int {
	sides := [2]api.Int{"1", "1"}
	for i, exponent := range exponents {
		side := 0
		if exponent < 0 {
			side, exponent = 1, -exponent
		}
		power, _ := whole.Power(whole.Of(numbers[i]), exponent)
		sides[side] = whole.Mul(sides[side], power)
	}
	return sides
}
