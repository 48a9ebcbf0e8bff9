package enclosure

import (
	"math/bits"
	"slices"

	"schisma/number"
)

const (
	wordLength = 64 // binary digits of a word
	partLength = 32 // binary digits that are added to a number at once
)

// mantissa is a number from 1 on, and less than 2, in words of binary digits, the lowest ones first: the highest digit is the 1 before the point.
type mantissa []uint64

// digits finds the binary digits of a logarithm, one after another: that of a number that is at least low, and at most high.
type digits struct{ low, high mantissa }

// newDigits returns the digits behind the point of the logarithm of a prime, which has so many whole octaves.
func newDigits(prime, octaves, words int) *digits {
	m := make(mantissa, words)
	m[words-1] = uint64(prime) << (wordLength - 1 - octaves)
	return &digits{m, m}
}

// next returns the next digit. It is not certain if the bounds do not agree.
func (d *digits) next() (digit int, certain bool) {
	low, digit, _ := d.low.square()
	high, other, exact := d.high.square()
	d.low, d.high = low, high
	return digit, digit == other && (exact || high.increase())
}

// square returns the square, if it is less than 2, with the digit 0, and otherwise half of it with the digit 1. What has no room in it is cut off; it is exact if that is nothing.
func (m mantissa) square() (root mantissa, digit int, exact bool) {
	product := m.product()
	digit = int(product[len(product)-1] >> (wordLength - 1))
	if digit == 0 {
		double(product)
	}
	rest := product[:len(m)]
	return mantissa(product[len(m):]), digit, !slices.ContainsFunc(rest, func(word uint64) bool { return word != 0 })
}

// product returns the words of a number times itself, with the point behind the second highest digit.
func (m mantissa) product() []uint64 {
	product := make([]uint64, 2*len(m))
	for i, x := range m {
		carry := uint64(0)
		for j, y := range m {
			high, low := bits.Mul64(x, y)
			low, more := bits.Add64(low, product[i+j], 0)
			high += more
			product[i+j], more = bits.Add64(low, carry, 0)
			carry = high + more
		}
		product[i+len(m)] = carry
	}
	return product
}

// double moves all digits one place up.
func double(words []uint64) {
	carry := uint64(0)
	for i, word := range words {
		words[i] = word<<1 | carry
		carry = word >> (wordLength - 1)
	}
}

// increase adds 1 at the lowest digit, and reports whether the number is less than 2 then.
func (m mantissa) increase() bool {
	carry := uint64(1)
	for i, word := range m {
		m[i], carry = bits.Add64(word, carry, 0)
	}
	return carry == 0
}

// lowOf returns the greatest integer that is at most 2 to a power, times the binary logarithm of a prime.
func lowOf(prime, power int) number.Number {
	for words := power/wordLength + 1; ; words++ {
		if n, certain := find(prime, power, words); certain {
			return n
		}
	}
}

// find does so with bounds of so many words, which are too few if it is not certain.
func find(prime, power, words int) (low number.Number, certain bool) {
	octaves := bits.Len(uint(prime)) - 1
	d := newDigits(prime, octaves, words)
	found := make([]int, power)
	for i := range found {
		digit, certain := d.next()
		if !certain {
			return number.Number{}, false
		}
		found[i] = digit
	}
	low = number.Of(octaves)
	for part := range slices.Chunk(found, partLength) {
		value := 0
		for _, digit := range part {
			value = value<<1 | digit
		}
		low = low.Mul(number.Of(1 << len(part))).Add(number.Of(value))
	}
	return low, true
}
