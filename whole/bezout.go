package whole

import "schisma/api"

// Bezout returns the greatest common divisor with the Bezout numbers.
func Bezout(a, b api.Int) (g, x, y api.Int) {
	if !canonical(a) || !canonical(b) {
		return "", "", "" // the way below would not end
	}
	if b == "0" {
		return Abs(a), Of(Sign(a)), "0"
	}
	modulus := Abs(b)
	_, rest, _ := DivMod(a, modulus)
	g, x = combine(rest, modulus)
	left := Sub(g, Mul(a, x))
	y, _, _ = DivMod(left, b)
	return g, x, y
}

// combine returns the greatest common divisor g of a number from 0 on and a greater one, the modulus, with the least x from 0 on such that g and x times the number leave the same remainder.
func combine(number, modulus api.Int) (g, x api.Int) {
	if n, m, are := bothFew(number, modulus); are {
		divisor, factor := combineFew(n, m)
		return Of(divisor), Of(factor)
	}
	// Each of both is, but for multiples of the modulus, the number times its factor.
	above, below := modulus, number
	factor, next := api.Int("0"), api.Int("1")
	for below != "0" {
		quotient, rest, _ := DivMod(above, below)
		above, below = below, rest
		factor, next = next, Sub(factor, Mul(quotient, next))
	}
	period, _, _ := DivMod(modulus, above)
	_, x, _ = DivMod(factor, period)
	return above, x
}

// combineFew does the same with ints; factors are never greater than the modulus.
func combineFew(number, modulus int) (g, x int) {
	above, below := modulus, number
	factor, next := 0, 1
	for below != 0 {
		quotient := above / below
		above, below = below, above%below
		factor, next = next, factor-quotient*next
	}
	_, x = divideDown(factor, modulus/above)
	return above, x
}
