package monzo

import (
	"strings"

	"schisma/api"
	"schisma/fraction"
	"schisma/prime"
	"schisma/row"
)

// Of returns the interval of a fraction.
func Of(p api.Primes, q api.Rational) (api.Row, api.Errno) {
	return prime.Factor(p, q)
}

// Fraction returns the fraction of an interval.
func Fraction(p api.Primes, x api.Row) (api.Rational, api.Errno) {
	return prime.Value(p, x)
}

// Parse returns the interval of a text: a ket, or a fraction.
func Parse(p api.Primes, s string) (api.Row, api.Errno) {
	if e := prime.Check(p); e != api.OK {
		return nil, e
	}
	if strings.HasPrefix(s, "[") {
		return parseKet(p, s)
	}
	q, e := fraction.Parse(s)
	if e != api.OK {
		return nil, e
	}
	return Of(p, q)
}

// parseKet returns the interval of a ket.
func parseKet(p api.Primes, s string) (api.Row, api.Errno) {
	x, ket, e := row.Parse(s)
	if e != api.OK {
		return nil, e
	}
	if !ket {
		return nil, api.ErrSyntax
	}
	if e := Check(p, x); e != api.OK {
		return nil, e
	}
	return x, api.OK
}

// Text returns the text of the fraction.
func Text(p api.Primes, x api.Row) (string, api.Errno) {
	q, e := Fraction(p, x)
	if e != api.OK {
		return "", e
	}
	return fraction.Text(q), api.OK
}

// Brackets returns the text of the exponents as a ket.
func Brackets(p api.Primes, x api.Row) (string, api.Errno) {
	if e := Check(p, x); e != api.OK {
		return "", e
	}
	return row.Text(x, true)
}
