package number

import "schisma/whole"

// DivMod divides downward by a number that is not 0.
func (a Number) DivMod(b Number) (quotient, remainder Number) {
	if areShort(a, b) {
		q, r := divideDown(a.short, b.short)
		return Number{short: q}, Number{short: r}
	}
	q, r, _ := whole.DivMod(a.Int(), b.Int())
	return From(q), From(r)
}

// Quotient returns the quotient of a division downward by a number that is not 0.
func (a Number) Quotient(b Number) Number {
	quotient, _ := a.DivMod(b)
	return quotient
}

// Divides reports whether b is a multiple of a; of 0 only 0 is one.
func (a Number) Divides(b Number) bool {
	if a.IsZero() {
		return b.IsZero()
	}
	_, remainder := b.DivMod(a)
	return remainder.IsZero()
}

// Bezout returns the greatest common divisor g of two numbers, of which b is greater than 0, and those with a x + b y = g for which x is from 0 to b / g - 1.
func Bezout(a, b Number) (g, x, y Number) {
	if areShort(a, b) {
		divisor, first, second := bezout(a.short, b.short)
		return Number{short: divisor}, Number{short: first}, Number{short: second}
	}
	divisor, first, second := whole.Bezout(a.Int(), b.Int())
	return From(divisor), From(first), From(second)
}

// bezout does the same with ints. The results have room, as they are not greater than a and b; where something on the way has none, it wraps around, and back again.
func bezout(a, b int) (g, x, y int) {
	quotient, below := divideDown(a, b)
	g = b
	// g and below are a and b times their factors, but for a multiple of b that is in the quotient.
	x, y = 0, 1
	nextX, nextY := 1, 0
	for below != 0 {
		q := g / below
		g, below = below, g%below
		x, nextX = nextX, x-q*nextX
		y, nextY = nextY, y-q*nextY
	}
	if x < 0 {
		x, y = x+max(nextX, -nextX), y-max(nextY, -nextY)
	}
	return g, x, y - quotient*x
}

// divideDown divides ints downward; neither is the least one, and b is not 0.
func divideDown(a, b int) (quotient, remainder int) {
	quotient, remainder = a/b, a%b
	if remainder != 0 && (remainder < 0) != (b < 0) {
		return quotient - 1, remainder + b
	}
	return quotient, remainder
}

// Gcd returns the greatest common divisor.
func Gcd(a, b Number) Number {
	for !b.IsZero() {
		_, rest := a.DivMod(b)
		a, b = b, rest
	}
	return a.Abs()
}
