package number

import "schisma/api"

// Common returns the numerators of sizes over one denominator, the least one that all of them have.
func Common(l ...api.Size) (numerators []Row, denominator Number) {
	denominator = Of(1)
	for _, a := range l {
		for _, x := range a {
			den := From(x.Den)
			denominator = denominator.Mul(den.Quotient(Gcd(denominator, den)))
		}
	}
	numerators = make([]Row, len(l))
	for i, a := range l {
		numerators[i] = make(Row, len(a))
		for j, x := range a {
			numerators[i][j] = From(x.Num).Mul(denominator.Quotient(From(x.Den)))
		}
	}
	return numerators, denominator
}
