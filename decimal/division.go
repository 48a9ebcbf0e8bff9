package decimal

import "math/bits"

// divide returns the quotient, and what is left; it uses up a. b is not 0.
func divide(a, b pieces) (quotient, rest pieces) {
	if n, short := b.short(); short {
		quotient, left := divideShort(a, n)
		return quotient, trim(pieces{left % base, left / base})
	}
	if len(a) < len(b) {
		return nil, a
	}
	quotient = make(pieces, len(a)-len(b)+1)
	rest = reduce(a, b, quotient)
	return trim(quotient), rest
}

// divideShort divides by a number other than 0 of at most two pieces.
func divideShort(a pieces, n uint64) (quotient pieces, rest uint64) {
	quotient = make(pieces, len(a))
	for i := len(a) - 1; i >= 0; i-- {
		quotient[i], rest = takeShort(rest, a[i], n)
	}
	return trim(quotient), rest
}

// takeShort divides what is left of higher pieces, which is less than n, with the next piece behind it, by n.
func takeShort(rest, piece, n uint64) (digit, left uint64) {
	high, low := bits.Mul64(rest, base)
	low, carry := bits.Add64(low, piece, 0)
	return bits.Div64(high+carry, low, n)
}

// reduce returns what is left of a, which it uses up, behind a division by b, which has at least two pieces. The pieces of the quotient go into quotient, if it is not nil.
func reduce(a, b, quotient pieces) pieces {
	rest := append(a, 0)
	for at := len(a) - len(b); at >= 0; at-- {
		digit := takeAway(rest[at:at+len(b)+1], b)
		if quotient != nil {
			quotient[at] = digit
		}
	}
	return trim(rest)
}

// takeAway subtracts b from part as often as possible, and returns how often. Part has one piece more, and is less than base times b.
func takeAway(part, b pieces) uint64 {
	digit := guess(part, b)
	carry := uint64(0)
	for i, piece := range b {
		carry += digit * piece
		away := carry % base
		carry /= base
		if part[i] < away {
			part[i] += base
			carry++
		}
		part[i] -= away
	}
	if part[len(b)] < carry {
		giveBack(part, b)
		digit--
	}
	part[len(b)] = 0 // as less than b is left
	return digit
}

// guess returns how often b is in part by the highest pieces: that is never too little, and at most 1 too much, as the two pieces of b are at least base.
func guess(part, b pieces) uint64 {
	top := len(b)
	high, low := bits.Mul64(part[top]*base+part[top-1], base)
	low, carry := bits.Add64(low, part[top-2], 0)
	digit, _ := bits.Div64(high+carry, low, b[top-1]*base+b[top-2])
	return digit
}

// giveBack adds b to the pieces of part below the highest one.
func giveBack(part, b pieces) {
	carry := uint64(0)
	for i, piece := range b {
		carry += part[i] + piece
		part[i] = carry % base
		carry /= base
	}
}

// gcd returns the greatest common divisor, and uses up both numbers.
func gcd(a, b pieces) pieces {
	n, short := b.short()
	for !short {
		a, b = b, reduce(a, b, nil)
		n, short = b.short()
	}
	if n == 0 {
		return a
	}
	rest := uint64(0)
	for i := len(a) - 1; i >= 0; i-- {
		_, rest = takeShort(rest, a[i], n)
	}
	divisor := smallGcd(n, rest)
	return trim(pieces{divisor % base, divisor / base})
}

// smallGcd returns the greatest common divisor of numbers of 64 bits.
func smallGcd(a, b uint64) uint64 {
	for b != 0 {
		a, b = b, a%b
	}
	return a
}
