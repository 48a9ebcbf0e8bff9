package decimal

import (
	"bytes"
	"math/bits"

	"schisma/api"
)

const (
	width = 9             // digits of a piece
	base  = 1_000_000_000 // how many values a piece has
)

// pieces is a natural number, cut into pieces of nine digits, the lowest ones first. The highest piece is not 0, so that 0 has no pieces.
type pieces []uint64

// cut returns the pieces of a number, with room for one more, unless it is not in canonical form.
func cut(x api.Int) (pieces, bool) {
	if !begins(x) {
		return nil, false
	}
	p := make(pieces, 0, len(x)/width+2)
	for end := len(x); end > 0; end -= width {
		piece, ok := value(x[max(0, end-width):end])
		if !ok {
			return nil, false
		}
		p = append(p, piece)
	}
	return trim(p), true
}

// cutBoth returns the pieces of two numbers, unless one is not in canonical form.
func cutBoth(a, b api.Int) (p, q pieces, ok bool) {
	p, first := cut(a)
	q, second := cut(b)
	return p, q, first && second
}

// value returns what at most nine digits write.
func value(digits api.Int) (uint64, bool) {
	n := uint64(0)
	for i := range len(digits) {
		if digits[i] < '0' || digits[i] > '9' {
			return 0, false
		}
		n = 10*n + uint64(digits[i]-'0')
	}
	return n, true
}

// join returns the digits of pieces.
func join(p pieces) api.Int {
	if len(p) == 0 {
		return "0"
	}
	digits := make([]byte, width*len(p))
	at := len(digits)
	for _, piece := range p {
		for range width {
			at--
			digits[at] = byte('0' + piece%10)
			piece /= 10
		}
	}
	return api.Int(bytes.TrimLeft(digits, "0"))
}

// trim takes away the highest pieces as long as they are 0.
func trim(p pieces) pieces {
	for len(p) > 0 && p[len(p)-1] == 0 {
		p = p[:len(p)-1]
	}
	return p
}

// short returns the value of at most two pieces.
func (p pieces) short() (uint64, bool) {
	switch len(p) {
	case 0:
		return 0, true
	case 1:
		return p[0], true
	case 2:
		return p[1]*base + p[0], true
	}
	return 0, false
}

// bitLength returns the number of binary digits, and uses up the pieces: they are halved 32 times at once, until they are short.
func (p pieces) bitLength() int {
	const half = 32
	count := 0
	for {
		if n, short := p.short(); short {
			return count + bits.Len64(n)
		}
		rest := uint64(0)
		for i := len(p) - 1; i >= 0; i-- {
			rest = rest*base + p[i]
			p[i] = rest >> half
			rest &= 1<<half - 1
		}
		p = trim(p)
		count += half
	}
}

// add returns the sum.
func add(a, b pieces) pieces {
	if len(a) < len(b) {
		a, b = b, a
	}
	sum := make(pieces, len(a)+1)
	carry := uint64(0)
	for i, piece := range a {
		carry += piece
		if i < len(b) {
			carry += b[i]
		}
		sum[i] = carry % base
		carry /= base
	}
	sum[len(a)] = carry
	return trim(sum)
}

// subtract returns the difference; b is at most a.
func subtract(a, b pieces) pieces {
	difference := make(pieces, len(a))
	borrow := uint64(0)
	for i, piece := range a {
		away := borrow
		if i < len(b) {
			away += b[i]
		}
		borrow = 0
		if piece < away {
			piece += base
			borrow = 1
		}
		difference[i] = piece - away
	}
	return trim(difference)
}

// multiply returns the product.
func multiply(a, b pieces) pieces {
	product := make(pieces, len(a)+len(b))
	for i, x := range a {
		carry := uint64(0)
		for j, y := range b {
			carry += product[i+j] + x*y // less than base squared, so that it fits in 64 bits
			product[i+j] = carry % base
			carry /= base
		}
		product[i+len(b)] = carry
	}
	return trim(product)
}
