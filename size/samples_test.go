package size_test

import (
	"math"
	"math/big"
	"math/rand/v2"
	"strings"

	"schisma/api"
)

// precision is the number of binary digits of the logarithms in these tests. Sums of logarithms times numbers of 30 digits are far from being so near to 0.
const precision = 2200

// lists returns right lists of primes.
func lists() []api.Primes {
	return []api.Primes{{2}, {3}, {97}, {2, 3}, {2, 3, 5}, {3, 5, 7}, {2, 3, 7, 11}, {2, 3, 5, 7, 11, 13}, {73, 79, 83, 89, 97}}
}

// wrongList is a list of primes with its error.
type wrongList struct {
	p api.Primes
	e api.Errno
}

// wrongLists returns lists that are not right.
func wrongLists() []wrongList {
	return []wrongList{
		{nil, api.ErrEmpty}, {api.Primes{2, 3, 5, 7, 11, 13, 17}, api.ErrLimit}, {make(api.Primes, 100), api.ErrLimit},
		{api.Primes{2, 4, 3}, api.ErrPrime}, {api.Primes{2, 101}, api.ErrPrime}, {api.Primes{math.MinInt, 2}, api.ErrPrime},
		{api.Primes{3, 2}, api.ErrOrder}, {api.Primes{2, 2, 4}, api.ErrOrder},
	}
}

// wrongSize is what is no size over two primes, with its error.
type wrongSize struct {
	s api.Size
	e api.Errno
}

// wrongSizes returns some of them, also with several errors, of which the first one counts.
func wrongSizes() []wrongSize {
	none, half, long := api.Rational{}, rational(1, 2), api.Rational{Num: power(30), Den: "1"}
	l := []wrongSize{
		{nil, api.ErrSize}, {api.Size{half}, api.ErrSize}, {api.Size{half, half, half}, api.ErrSize}, {api.Size{none}, api.ErrSize}, {api.Size{none, long, half}, api.ErrSize}, {make(api.Size, 100), api.ErrSize},
		{api.Size{none, half}, api.ErrNumber}, {api.Size{half, none}, api.ErrNumber}, {api.Size{none, long}, api.ErrNumber},
		{api.Size{long, half}, api.ErrLimit}, {api.Size{half, long}, api.ErrLimit}, {api.Size{long, none}, api.ErrLimit},
	}
	for _, x := range wrongFractions() {
		l = append(l, wrongSize{api.Size{x, half}, api.ErrNumber}, wrongSize{api.Size{half, x}, api.ErrNumber})
	}
	for _, x := range []api.Rational{{Num: "-" + power(30), Den: "1"}, {Num: "1", Den: power(30)}, {Num: "-1", Den: power(30)}, {Num: power(399), Den: "1"}, {Num: "3", Den: power(399)}} {
		l = append(l, wrongSize{api.Size{x, half}, api.ErrLimit}, wrongSize{api.Size{half, x}, api.ErrLimit})
	}
	return l
}

// wrongFractions returns fractions that are not right.
func wrongFractions() []api.Rational {
	return []api.Rational{{}, {Num: "2", Den: "4"}, {Num: "0", Den: "2"}, {Num: "1", Den: "0"}, {Num: "1", Den: "-2"}, {Num: "-0", Den: "1"}, {Num: "01", Den: "1"}, {Num: "x", Den: "1"}, {Num: "1", Den: "x"}, {Num: power(400), Den: "1"}, {Num: "1", Den: power(400)}}
}

// power returns 10 to a power.
func power(n int) api.Int {
	return api.Int("1" + strings.Repeat("0", n))
}

// rational returns a fraction in lowest terms.
func rational(num, den int64) api.Rational {
	return ofStandard(big.NewRat(num, den))
}

// ofStandard returns the fraction that one of the standard library is.
func ofStandard(x *big.Rat) api.Rational {
	return api.Rational{Num: api.Int(x.Num().String()), Den: api.Int(x.Denom().String())}
}

// standard returns what a fraction is in the standard library.
func standard(x api.Rational) *big.Rat {
	r, ok := new(big.Rat).SetString(string(x.Num) + "/" + string(x.Den))
	if !ok || ofStandard(r) != x {
		panic("not in lowest terms: " + x.Num + "/" + x.Den)
	}
	return r
}

// vector is a size in the standard library.
type vector []*big.Rat

// vectorOf returns what a size is.
func vectorOf(s api.Size) vector {
	v := make(vector, len(s))
	for i, x := range s {
		v[i] = standard(x)
	}
	return v
}

// size returns the size that a vector is, and whether no number is too long.
func (v vector) size() (s api.Size, right bool) {
	right = true
	for _, x := range v {
		s = append(s, ofStandard(x))
		right = right && len(new(big.Int).Abs(x.Num()).String()) <= api.MaxSize && len(x.Denom().String()) <= api.MaxSize
	}
	return s, right
}

// plus returns v and k times w.
func (v vector) plus(k *big.Rat, w vector) vector {
	sum := make(vector, len(v))
	for i, x := range v {
		sum[i] = new(big.Rat).Mul(k, w[i])
		sum[i].Add(sum[i], x)
	}
	return sum
}

// integers returns the numerators over one denominator.
func (v vector) integers() []*big.Int {
	den := big.NewInt(1)
	for _, x := range v {
		den.Mul(den, x.Denom())
	}
	l := make([]*big.Int, len(v))
	for i, x := range v {
		l[i] = new(big.Rat).Mul(x, new(big.Rat).SetInt(den)).Num()
	}
	return l
}

// sign returns the sign of a size over some primes: by powers of these if they are short, and otherwise by many digits of the logarithms.
func (v vector) sign(p api.Primes) int {
	const short = 2000
	factors := v.integers()
	total, most := new(big.Int), new(big.Int)
	for i, n := range factors {
		most.Add(most, new(big.Int).Abs(n))
		total.Add(total, new(big.Int).Mul(n, binary(p[i])))
	}
	if most.Cmp(big.NewInt(short)) <= 0 {
		return signOfPowers(p, factors)
	}
	// The logarithms are too low by less than 1, each.
	if total.CmpAbs(most) <= 0 {
		panic("too few digits")
	}
	return total.Sign()
}

// signOfPowers compares the product of powers with exponents greater than 0 with that of the others.
func signOfPowers(p api.Primes, exponents []*big.Int) int {
	sides := [2]*big.Int{big.NewInt(1), big.NewInt(1)}
	for i, n := range exponents {
		side := 0
		if n.Sign() < 0 {
			side = 1
		}
		sides[side].Mul(sides[side], new(big.Int).Exp(big.NewInt(int64(p[i])), new(big.Int).Abs(n), nil))
	}
	return sides[0].Cmp(sides[1])
}

// known has the logarithms that were found.
var known = map[int]*big.Int{}

// binary returns the greatest integer that is at most 2 to the power precision, times the binary logarithm of a prime. Its binary digits are found one after another, by squaring a number between 1 and 2.
func binary(n int) *big.Int {
	if known[n] != nil {
		return known[n]
	}
	const places = 2*precision + 64 // each squaring doubles what the number is too low by
	x := big.NewInt(int64(n))
	length := x.BitLen() - 1
	x.Lsh(x, uint(places-length))
	low := big.NewInt(int64(length))
	for range precision {
		x.Mul(x, x).Rsh(x, places)
		low.Lsh(low, 1)
		if x.BitLen() == places+2 {
			x.Rsh(x, 1)
			low.SetBit(low, 0, 1)
		}
	}
	known[n] = low
	return low
}

// random returns a size over n primes whose numerators and denominators have up to so many digits.
func random(r *rand.Rand, n, numerators, denominators int) api.Size {
	digits := func(most int) *big.Int {
		k := new(big.Int)
		for range r.IntN(most + 1) {
			k.Mul(k, big.NewInt(10)).Add(k, big.NewInt(r.Int64N(10)))
		}
		return k
	}
	s := make(api.Size, n)
	for i := range s {
		den := digits(denominators)
		if den.Sign() == 0 {
			den.SetInt64(1)
		}
		num := digits(numerators)
		if r.IntN(2) == 0 {
			num.Neg(num)
		}
		s[i] = ofStandard(new(big.Rat).SetFrac(num, den))
	}
	return s
}

// samples returns sizes over n primes: 0, single coefficients, short and long ones, and those of the greatest numbers.
func samples(n int) []api.Size {
	r := rand.New(rand.NewPCG(13, uint64(n)))
	nines := api.Int(strings.Repeat("9", api.MaxSize))
	var l []api.Size
	for i := range n {
		for _, x := range []api.Rational{rational(0, 1), rational(1, 1), rational(-1, 1), rational(1, 4), rational(-7, 3), {Num: nines, Den: "1"}, {Num: "-" + nines, Den: power(29)}, {Num: "1", Den: nines}} {
			s := make(api.Size, n)
			for j := range s {
				s[j] = rational(0, 1)
			}
			s[i] = x
			l = append(l, s)
		}
	}
	for range 4 {
		l = append(l, random(r, n, 1, 0), random(r, n, 1, 1), random(r, n, 2, 1), random(r, n, 5, 2), random(r, n, 18, 18), random(r, n, 30, 0), random(r, n, 30, 30), random(r, n, 0, 30))
	}
	return l
}

// integral returns the size with integers as coefficients.
func integral(digits ...api.Int) api.Size {
	s := make(api.Size, len(digits))
	for i, n := range digits {
		s[i] = api.Rational{Num: n, Den: "1"}
	}
	return s
}

// nearZero returns sizes that are nearly 0: some are less than 10 to the power -140.
func nearZero() map[string][]api.Size {
	return map[string][]api.Size{
		"2.3": {
			integral("-84", "53"), integral("-485", "306"), integral("-301994", "190537"),
			integral("-40583281278899710574680154882", "25605199656417336413383685835"), integral("99111513429841767911321781937", "-62532402744384260909046316717"),
		},
		"2.3.5": {
			integral("-4", "4", "-1"),
			integral("11337753750863538940889440067", "-33043600810744979419960450935", "17672861839831037984502678068"),
			integral("74014312066951065248849773393", "-1908038539730743093791767621", "-30573790242626287490746697715"),
		},
		"2.3.5.7.11.13": {
			integral("1070734186444767910370413845", "-139990953333800618317839953", "19732953126999393570020456856", "-13471823155194797085304897779", "-8486280668715651535345927318", "5542731740126474748435979307"),
			integral("-1171814383729410275090190479", "-37509598290148975936981662381", "224093644546560580227602299", "6975964554312935407810324762", "16254578542963425287551703434", "-4246203376371327462372057929"),
			integral("9849117459054397289978094892", "-5235126417974827805839249127", "33031731735335651652917598496", "-1210453732590743031159125499", "18264005552936460328228588974", "-37302012707050098720161515415"),
		},
		"73.79.83.89.97": {
			integral("-19936267977233410381333901946", "5908306359571359087531101653", "-30144400250964451567638745667", "41580363211400350044789791605", "1373612892363894219748385057"),
			integral("-4834467973757780184935636872", "29141201346050606510193392916", "-24290579975140485327600156401", "-32014295901133939053177560206", "31575298180402832055036215722"),
		},
	}
}
