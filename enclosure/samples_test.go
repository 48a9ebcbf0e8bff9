package enclosure_test

import (
	"math"
	"math/big"
	"math/rand/v2"
	"strings"

	"schisma/api"
	"schisma/enclosure"
	"schisma/logarithm"
	"schisma/number"
)

// primes returns all prime numbers up to api.MaxPrime.
func primes() []int {
	return []int{2, 3, 5, 7, 11, 13, 17, 19, 23, 29, 31, 37, 41, 43, 47, 53, 59, 61, 67, 71, 73, 79, 83, 89, 97}
}

// lists returns right lists of primes.
func lists() []api.Primes {
	return []api.Primes{{2}, {3}, {97}, {2, 3}, {2, 3, 5}, {3, 5, 7}, {2, 5, 7, 11}, {2, 3, 5, 7, 11, 13}, {73, 79, 83, 89, 97}}
}

// wrongList is a list of primes with its error.
type wrongList struct {
	p api.Primes
	e api.Errno
}

// wrongLists returns lists that are not right.
func wrongLists() []wrongList {
	return []wrongList{
		{nil, api.ErrEmpty}, {api.Primes{2, 3, 5, 7, 11, 13, 17}, api.ErrLimit}, {make(api.Primes, 100), api.ErrLimit},
		{api.Primes{2, 4, 3}, api.ErrPrime}, {api.Primes{2, 101}, api.ErrPrime}, {api.Primes{math.MinInt, 2}, api.ErrPrime},
		{api.Primes{3, 2}, api.ErrOrder}, {api.Primes{2, 2, 4}, api.ErrOrder},
	}
}

// wrongSize is what is no size over two primes, with its error.
type wrongSize struct {
	s api.Size
	e api.Errno
}

// wrongSizes returns some of them, also with several errors, of which the first one counts.
func wrongSizes() []wrongSize {
	none, half, long := api.Rational{}, rational(1, 2), api.Rational{Num: "1" + zeros(30), Den: "1"}
	return []wrongSize{
		{nil, api.ErrSize}, {api.Size{half}, api.ErrSize}, {api.Size{half, half, half}, api.ErrSize}, {api.Size{none}, api.ErrSize}, {make(api.Size, 100), api.ErrSize},
		{api.Size{none, half}, api.ErrNumber}, {api.Size{half, none}, api.ErrNumber}, {api.Size{none, long}, api.ErrNumber}, {api.Size{{Num: "2", Den: "4"}, half}, api.ErrNumber}, {api.Size{half, {Num: "1", Den: "0"}}, api.ErrNumber},
		{api.Size{long, half}, api.ErrLimit}, {api.Size{half, long}, api.ErrLimit}, {api.Size{long, none}, api.ErrLimit}, {api.Size{half, {Num: "-1", Den: "1" + zeros(30)}}, api.ErrLimit},
	}
}

// zeros returns digits.
func zeros(n int) api.Int {
	return api.Int(strings.Repeat("0", n))
}

// rational returns a fraction in lowest terms.
func rational(num, den int64) api.Rational {
	return ofStandard(big.NewRat(num, den))
}

// ofStandard returns the fraction that one of the standard library is.
func ofStandard(x *big.Rat) api.Rational {
	return api.Rational{Num: api.Int(x.Num().String()), Den: api.Int(x.Denom().String())}
}

// standard returns what a fraction is in the standard library.
func standard(x api.Rational) *big.Rat {
	r, ok := new(big.Rat).SetString(string(x.Num) + "/" + string(x.Den))
	if !ok || ofStandard(r) != x {
		panic("not in lowest terms: " + x.Num + "/" + x.Den)
	}
	return r
}

// integral returns the size with integers as coefficients.
func integral(digits ...api.Int) api.Size {
	s := make(api.Size, len(digits))
	for i, n := range digits {
		s[i] = api.Rational{Num: n, Den: "1"}
	}
	return s
}

// negative returns the negative of a size.
func negative(s api.Size) api.Size {
	n := make(api.Size, len(s))
	for i, x := range s {
		n[i] = ofStandard(new(big.Rat).Neg(standard(x)))
	}
	return n
}

// random returns a size over n primes whose numerators and denominators have up to so many digits.
func random(r *rand.Rand, n, numerators, denominators int) api.Size {
	digits := func(most int) *big.Int {
		k := new(big.Int)
		for range r.IntN(most + 1) {
			k.Mul(k, big.NewInt(10)).Add(k, big.NewInt(r.Int64N(10)))
		}
		return k
	}
	s := make(api.Size, n)
	for i := range s {
		den := digits(denominators)
		if den.Sign() == 0 {
			den.SetInt64(1)
		}
		num := digits(numerators)
		if r.IntN(2) == 0 {
			num.Neg(num)
		}
		s[i] = ofStandard(new(big.Rat).SetFrac(num, den))
	}
	return s
}

// samples returns sizes over n primes: 0, single coefficients, short and long ones, and those of the greatest numbers.
func samples(n int) []api.Size {
	r := rand.New(rand.NewPCG(14, uint64(n)))
	nines := api.Int(strings.Repeat("9", api.MaxSize))
	var l []api.Size
	for i := range n {
		for _, x := range []api.Rational{rational(0, 1), rational(1, 1), rational(-1, 1), rational(1, 4), rational(-7, 3), rational(1, 2400), rational(-1, 240), {Num: nines, Den: "1"}, {Num: "-" + nines, Den: "1" + zeros(29)}, {Num: "1", Den: nines}} {
			s := make(api.Size, n)
			for j := range s {
				s[j] = rational(0, 1)
			}
			s[i] = x
			l = append(l, s)
		}
	}
	for range 3 {
		l = append(l, random(r, n, 1, 0), random(r, n, 1, 1), random(r, n, 2, 1), random(r, n, 5, 2), random(r, n, 18, 18), random(r, n, 30, 0), random(r, n, 30, 30), random(r, n, 0, 30))
	}
	return append(l, nearZero(n)...)
}

// nearZero returns sizes over the first n primes that are nearly 0: some are less than 10 to the power -140.
func nearZero(n int) []api.Size {
	switch n {
	case 2:
		return []api.Size{
			integral("-19", "12"), integral("-84", "53"), integral("-485", "306"), integral("-301994", "190537"),
			integral("-40583281278899710574680154882", "25605199656417336413383685835"), integral("99111513429841767911321781937", "-62532402744384260909046316717"),
		}
	case 3:
		return []api.Size{
			integral("-4", "4", "-1"),
			integral("11337753750863538940889440067", "-33043600810744979419960450935", "17672861839831037984502678068"),
		}
	case 6:
		return []api.Size{
			integral("1070734186444767910370413845", "-139990953333800618317839953", "19732953126999393570020456856", "-13471823155194797085304897779", "-8486280668715651535345927318", "5542731740126474748435979307"),
			integral("9849117459054397289978094892", "-5235126417974827805839249127", "33031731735335651652917598496", "-1210453732590743031159125499", "18264005552936460328228588974", "-37302012707050098720161515415"),
		}
	}
	return nil
}

// precision is the greatest number of bits of lows in these tests.
const precision = 1100

// known has the lows with so many bits that were found.
var known = map[int]*big.Int{}

// low returns the Low of right bounds, by the series of package logarithm.
func low(prime, bits int) *big.Int {
	if prime == 2 {
		return new(big.Int).Lsh(big.NewInt(1), uint(bits))
	}
	if known[prime] == nil {
		power := number.From(api.Int(new(big.Int).Lsh(big.NewInt(1), precision).String()))
		known[prime] = integer(logarithm.Floor(api.Primes{2, prime}, number.Row{{}, power}, number.Row{number.Of(1), {}}).Int())
	}
	return new(big.Int).Rsh(known[prime], uint(precision-bits))
}

// integer returns what an integer is in the standard library.
func integer(a api.Int) *big.Int {
	n, ok := new(big.Int).SetString(string(a), 10)
	if !ok || n.String() != string(a) {
		panic("not canonical: " + a)
	}
	return n
}

// fractions are numerators over one denominator.
type fractions struct {
	nums []*big.Int
	den  *big.Int
}

// common returns the coefficients of a size.
func common(s api.Size) fractions {
	f := fractions{den: big.NewInt(1)}
	for _, x := range s {
		f.den.Mul(f.den, integer(x.Den))
	}
	for _, x := range s {
		factor := new(big.Int).Quo(f.den, integer(x.Den))
		f.nums = append(f.nums, factor.Mul(factor, integer(x.Num)))
	}
	return f
}

// ends returns those of the enclosure of a size, times the denominator, and times 2 to the power of its bits.
func (f fractions) ends(p api.Primes, bits int) (least, greatest *big.Int) {
	least, greatest = new(big.Int), new(big.Int)
	for i, n := range f.nums {
		a := low(p[i], bits)
		b := new(big.Int).Add(a, big.NewInt(1))
		if p[i] == 2 {
			b.Set(a)
		}
		a.Mul(a, n)
		b.Mul(b, n)
		if n.Sign() < 0 {
			a, b = b, a
		}
		least.Add(least, a)
		greatest.Add(greatest, b)
	}
	return least, greatest
}

// ends returns those of the enclosure of a size.
func ends(p api.Primes, s api.Size, bits int) (least, greatest *big.Rat) {
	f := common(s)
	a, b := f.ends(p, bits)
	den := new(big.Int).Lsh(f.den, uint(bits))
	return new(big.Rat).SetFrac(a, den), new(big.Rat).SetFrac(b, den)
}

// isZero reports whether a size is 0.
func isZero(s api.Size) bool {
	for _, x := range s {
		if x.Num != "0" {
			return false
		}
	}
	return true
}

// sign returns the sign that the enclosure with so many bits decides, or 0, of a size that is not 0.
func (f fractions) sign(p api.Primes, bits int) int {
	least, greatest := f.ends(p, bits)
	switch {
	case least.Sign() >= 0:
		return 1
	case greatest.Sign() <= 0:
		return -1
	}
	return 0
}

// proof returns what a proof with so many bits is, if its sign is right.
func proof(p api.Primes, s api.Size, sign, bits int) api.Comparison {
	c := api.Comparison{Sign: sign, Bits: bits}
	for i, x := range s {
		if x.Num != "0" {
			c.Bounds = append(c.Bounds, api.Bounds{Prime: p[i], Bits: bits, Low: api.Int(low(p[i], bits).String())})
		}
	}
	return c
}

// rounded returns the rounded cents of a number of octaves, times 10 to the power of places.
func rounded(x *big.Rat, places int) *big.Int {
	unit := new(big.Int).Exp(big.NewInt(10), big.NewInt(int64(places)), nil)
	unit.Mul(unit, big.NewInt(1200))
	y := new(big.Rat).Mul(x, new(big.Rat).SetInt(unit))
	y.Add(y, big.NewRat(1, 2))
	return new(big.Int).Div(y.Num(), y.Denom()) // downward, as the denominator is greater than 0
}

// written returns the text of rounded cents.
func written(n *big.Int, places int) string {
	unit := new(big.Int).Exp(big.NewInt(10), big.NewInt(int64(places)), nil)
	return new(big.Rat).SetFrac(n, unit).FloatString(places)
}

// bits returns numbers of bits at the edges of words of many lengths, up to a limit.
func bits(limit int) []int {
	l := []int{0, 1, 2, 3, 7, 12, 31, 32, 33, 50, 61, 62, 63, 64, 65, 100, 127, 128, 129, 191, 192, 320, 511, 512, 640, 703, 960, 999, enclosure.MaxBits}
	for i, n := range l {
		if n > limit {
			return l[:i]
		}
	}
	return l
}
