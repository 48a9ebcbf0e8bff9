package logarithm

import (
	"math/big"
	"math/rand/v2"
	"slices"
	"strings"
	"testing"

	"schisma/api"
	"schisma/number"
)

// digits is the number of decimal places of the literals below.
const digits = 61

// naturals returns the natural logarithms of all primes up to api.MaxPrime, cut off behind so many places, without the point.
func naturals() map[int]string {
	return map[int]string{
		2:  "06931471805599453094172321214581765680755001343602552541206800",
		3:  "10986122886681096913952452369225257046474905578227494517346943",
		5:  "16094379124341003746007593332261876395256013542685177219126478",
		7:  "19459101490553133051053527434431797296370847295818611884593901",
		11: "23978952727983705440619435779651292998217068539374171752185677",
		13: "25649493574615367360534874415653186048052679447602071164190455",
		17: "28332133440562160802495346178731265355882030125857447872972377",
		19: "29444389791664404600090274318878535372373792612991288185379602",
		23: "31354942159291496908067528318101961184423803148404357419986353",
		29: "33672958299864740271832720323619116054945129139227440789216703",
		31: "34339872044851462459291643245423572104499389304805919717567180",
		37: "36109179126442244443680956710314471639000775871676361636449126",
		41: "37135720667043078038667633730374075883764104693993016336192629",
		43: "37612001156935624234728425133458470355591361848815554151916852",
		47: "38501476017100585868209506697721737088960505020202240332005083",
		53: "39702919135521218341444691390290577703599777529112176030481294",
		59: "40775374439057194506160503737196976240633467893304545295120366",
		61: "41108738641733112487513891034256147463156817430812610629373836",
		67: "42046926193909660596700719963637227505669329032218953371377841",
		71: "42626798770413154213294545325130340967595765267105661081214258",
		73: "42904594411483911290921088574385425709047528448715976645956988",
		79: "43694478524670214941729455414814109221735412244226096254121711",
		83: "44188406077965979234754722232913704530293130566632363701879434",
		89: "44886363697321398383178155406698492194046603871329593641066975",
		97: "45747109785033828221167216217039617138089149026587813559762343",
	}
}

// lists returns right lists of primes.
func lists() []api.Primes {
	return []api.Primes{{2}, {97}, {2, 3}, {89, 97}, {2, 3, 5}, {3, 5, 7}, {2, 3, 7, 11}, {2, 3, 5, 7, 11, 13}, {3, 11, 23, 41, 59, 79}, {71, 73, 79, 83, 89, 97}}
}

// integer returns what a number is in the standard library.
func integer(a number.Number) *big.Int {
	n, ok := new(big.Int).SetString(string(a.Int()), 10)
	if !ok {
		panic("no integer: " + a.Int())
	}
	return n
}

// written returns the number that digits write.
func written(s string) number.Number {
	return number.From(api.Int(strings.TrimLeft(s, "0")))
}

// row returns the numbers of texts.
func row(texts ...string) number.Row {
	r := make(number.Row, len(texts))
	for i, s := range texts {
		r[i] = number.From(api.Int(s))
	}
	return r
}

func TestSeries(t *testing.T) {
	s := newSeries(digits)
	coarse, fine := newSeries(digits-30), newSeries(10*digits)
	for n, literal := range naturals() {
		b := s.of(n)
		low := integer(written(literal))
		if integer(b.low).Cmp(low) > 0 || integer(b.high).Cmp(low) <= 0 {
			t.Errorf("the logarithm of %d is not between %s and %s", n, b.low.Int(), b.high.Int())
		}
		if width := b.high.Sub(b.low); width.Sign() < 0 || width.Sub(number.Of(100_000)).Sign() > 0 {
			t.Errorf("the bounds of %d are %s from each other", n, width.Int())
		}
		for _, pair := range [][2]bounds{{coarse.of(n), scaled(b, 30)}, {b, scaled(fine.of(n), 9*digits)}} {
			if pair[0].low.Sub(pair[1].low).Sign() > 0 || pair[0].high.Sub(pair[1].high).Sign() < 0 {
				t.Errorf("the bounds of %d with more digits are not within those with fewer", n)
			}
		}
	}
}

// scaled returns bounds with so many digits less, widened to integers.
func scaled(b bounds, places int) bounds {
	unit := written("1" + strings.Repeat("0", places))
	return bounds{b.low.Quotient(unit), b.high.Neg().Quotient(unit).Neg()}
}

// The table has what the series say: quotients of natural logarithms.
func TestTable(t *testing.T) {
	s := newSeries(digits)
	for n := range naturals() {
		binary := s.of(n).times(number.Of(1 << 40)).quotient(s.of(2))
		if n == 2 {
			binary = bounds{number.Of(1 << 40), number.Of(1 << 40)}
		}
		if got := tabulated(n); binary.low != binary.high || got.low != binary.low || got.high != binary.low.Add(number.Of(1)) {
			t.Errorf("the table has %v for %d, not %v", got, n, binary)
		}
	}
}

func TestBounds(t *testing.T) {
	ends := []int{-7, -6, -1, 0, 1, 2, 5, 6}
	for _, low := range ends {
		for _, high := range ends {
			if low > high {
				continue
			}
			b := bounds{number.Of(low), number.Of(high)}
			half := b.half()
			if integer(half.low).Int64() != floor(low, 2) || integer(half.high).Int64() != -floor(-high, 2) {
				t.Errorf("half of %d to %d is %v", low, high, half)
			}
			for _, factor := range ends {
				least, greatest := min(low*factor, high*factor), max(low*factor, high*factor)
				if got := b.times(number.Of(factor)); got != (bounds{number.Of(least), number.Of(greatest)}) {
					t.Errorf("%d to %d times %d is %v", low, high, factor, got)
				}
			}
			for c := 1; c < 4; c++ {
				for d := c; d < 5; d++ {
					least := min(floor(low, c), floor(low, d))
					greatest := max(floor(high, c), floor(high, d))
					got := b.quotient(bounds{number.Of(c), number.Of(d)})
					if integer(got.low).Int64() != least || integer(got.high).Int64() != greatest {
						t.Errorf("%d to %d by %d to %d is %v", low, high, c, d, got)
					}
				}
			}
		}
	}
}

// floor divides downward by a number greater than 0.
func floor(a, b int) int64 {
	return new(big.Int).Div(big.NewInt(int64(a)), big.NewInt(int64(b))).Int64()
}

// powers returns the sign of a sum of factors times logarithms, by the product of the primes to the power of the factors.
func powers(p api.Primes, factors []int) int {
	sides := [2]*big.Int{big.NewInt(1), big.NewInt(1)}
	for i, n := range factors {
		side := 0
		if n < 0 {
			side, n = 1, -n
		}
		sides[side].Mul(sides[side], new(big.Int).Exp(big.NewInt(int64(p[i])), big.NewInt(int64(n)), nil))
	}
	return sides[0].Cmp(sides[1])
}

func TestSign(t *testing.T) {
	r := rand.New(rand.NewPCG(13, 1))
	for _, p := range lists() {
		for _, most := range []int{1, 2, 5, 30, 1000, 5000} {
			for range 40 {
				factors := make(api.Row, len(p))
				for i := range factors {
					factors[i] = r.IntN(2*most+1) - most
				}
				want := powers(p, factors)
				if sign := Sign(p, number.FromRow(factors)); sign != want {
					t.Errorf("Sign(%v, %v) = %d", p, factors, sign)
				}
			}
		}
		if sign := Sign(p, make(number.Row, len(p))); sign != 0 {
			t.Errorf("Sign(%v) of zeros is %d", p, sign)
		}
	}
}

// near is a sum of factors times logarithms that is nearly 0, with its sign.
type near struct {
	p       api.Primes
	factors number.Row
	sign    int
}

// nearZero returns such sums: some are less than 10 to the power -140.
func nearZero() []near {
	two, six, great := api.Primes{2, 3}, api.Primes{2, 3, 5, 7, 11, 13}, api.Primes{73, 79, 83, 89, 97}
	return []near{
		{two, row("-19", "12"), 1}, {two, row("-84", "53"), 1}, {two, row("-485", "306"), -1}, {two, row("-1054", "665"), 1}, {two, row("-50508", "31867"), 1}, {two, row("-301994", "190537"), -1},
		{two, row("-40583281278899710574680154882", "25605199656417336413383685835"), 1},
		{two, row("99111513429841767911321781937", "-62532402744384260909046316717"), 1},
		{api.Primes{2, 3, 5}, row("11337753750863538940889440067", "-33043600810744979419960450935", "17672861839831037984502678068"), 1},
		{api.Primes{2, 3, 5}, row("74014312066951065248849773393", "-1908038539730743093791767621", "-30573790242626287490746697715"), -1},
		{six, row("1070734186444767910370413845", "-139990953333800618317839953", "19732953126999393570020456856", "-13471823155194797085304897779", "-8486280668715651535345927318", "5542731740126474748435979307"), 1},
		{six, row("-1171814383729410275090190479", "-37509598290148975936981662381", "224093644546560580227602299", "6975964554312935407810324762", "16254578542963425287551703434", "-4246203376371327462372057929"), 1},
		{six, row("-32598280964819193899778241297", "-10390982102917681851690453480", "21161910508716194761201963493", "-3616549865769647417532972376", "11752345728737633356606135625", "-8261811102829309685227569878"), -1},
		{six, row("9849117459054397289978094892", "-5235126417974827805839249127", "33031731735335651652917598496", "-1210453732590743031159125499", "18264005552936460328228588974", "-37302012707050098720161515415"), -1},
		{great, row("-19936267977233410381333901946", "5908306359571359087531101653", "-30144400250964451567638745667", "41580363211400350044789791605", "1373612892363894219748385057"), -1},
		{great, row("-4834467973757780184935636872", "29141201346050606510193392916", "-24290579975140485327600156401", "-32014295901133939053177560206", "31575298180402832055036215722"), 1},
	}
}

func TestSignNearZero(t *testing.T) {
	for i, c := range nearZero() {
		negative := number.Combine(c.factors, c.factors, func(a, _ number.Number) number.Number { return a.Neg() })
		if sign := Sign(c.p, c.factors); sign != c.sign {
			t.Errorf("%d: Sign = %d", i, sign)
		}
		if sign := Sign(c.p, negative); sign != -c.sign {
			t.Errorf("%d: Sign of the negative = %d", i, sign)
		}
	}
}

func TestCompare(t *testing.T) {
	r := rand.New(rand.NewPCG(15, 1))
	for _, p := range lists() {
		for _, most := range []int{0, 1, 3, 50, 1000, 1 << 15} {
			for range 40 {
				x, y := make(api.Row, len(p)), make(api.Row, len(p))
				for i := range p {
					x[i], y[i] = r.IntN(2*most+1)-most, r.IntN(2*most+1)-most
				}
				difference := number.Combine(number.FromRow(x), number.FromRow(y), number.Number.Sub)
				if got := Compare(p, x, y); got != Sign(p, difference) || Compare(p, y, x) != -got || Compare(p, x, x) != 0 {
					t.Errorf("Compare(%v, %v, %v) = %d", p, x, y, got)
				}
			}
		}
		// The greatest sums have room.
		greatest, least := slices.Repeat(api.Row{1 << 15}, len(p)), slices.Repeat(api.Row{-1 << 15}, len(p))
		if Compare(p, greatest, least) != 1 || Compare(p, least, greatest) != -1 {
			t.Errorf("Compare(%v) of the greatest sums", p)
		}
	}
}

// Differences that the table does not decide, by the products of powers.
func TestCompareNear(t *testing.T) {
	two, three, six := api.Primes{2, 3}, api.Primes{2, 3, 5}, api.Primes{2, 3, 5, 7, 11, 13}
	for _, c := range []struct {
		p api.Primes
		x api.Row
	}{
		{two, api.Row{-19, 12}}, {two, api.Row{-84, 53}}, {two, api.Row{-1054, 665}}, {two, api.Row{-24727, 15601}}, {three, api.Row{-90, -15, 49}},
		{six, api.Row{-178, -449, 439, 153, 140, -282}}, {six, api.Row{242, -101, -457, 501, -131, 7}}, {six, api.Row{374, 195, 18, 33, -339, 96}}, {six, api.Row{397, -513, -204, -440, 426, 176}},
	} {
		zero, want := make(api.Row, len(c.x)), powers(c.p, c.x)
		if Compare(c.p, c.x, zero) != want || Compare(c.p, zero, c.x) != -want {
			t.Errorf("Compare(%v, %v) is not %d", c.p, c.x, want)
		}
	}
}

// isFloor reports whether n is the greatest integer not greater than the quotient of a and b: a less n b has the sign of b, or is 0, and a less n + 1 times b has the other sign.
func isFloor(p api.Primes, a, b number.Row, n number.Number) bool {
	rest := number.Less(a, n, b)
	beyond := number.Less(rest, number.Of(1), b)
	sign := Sign(p, b)
	return Sign(p, rest) != -sign && Sign(p, beyond) == -sign
}

func TestFloor(t *testing.T) {
	r := rand.New(rand.NewPCG(13, 2))
	random := func(n, most int) number.Row {
		l := make(api.Row, n)
		for i := range l {
			l[i] = r.IntN(2*most+1) - most
		}
		return number.FromRow(l)
	}
	for _, p := range lists() {
		for _, most := range []int{1, 3, 20, 1000, 1_000_000_000} {
			for range 40 {
				a, b := random(len(p), most), random(len(p), most)
				if isZero(b) {
					continue
				}
				for _, above := range []number.Row{a, b, number.Less(b, number.Of(3), b), make(number.Row, len(p))} {
					if n := Floor(p, above, b); !isFloor(p, above, b, n) {
						t.Errorf("Floor(%v, %v, %v) = %s", p, above, b, n.Int())
					}
				}
			}
		}
	}
	if !slices.EqualFunc([]int{-3, -2, -1, 0, 1, 2, 3}, []string{"-2", "-1", "-1", "0", "0", "1", "1"}, func(n int, want string) bool {
		return Floor(api.Primes{2, 3}, number.FromRow(api.Row{3 * n, -n}), number.FromRow(api.Row{6, -2})).Int() == api.Int(want)
	}) {
		t.Error("wrong quotients of multiples of one sum")
	}
}

// Quotients by sums that are nearly 0 have many digits.
func TestFloorOfMany(t *testing.T) {
	for i, c := range nearZero() {
		one := make(number.Row, len(c.p))
		one[0] = written("1" + strings.Repeat("0", 29))
		n := Floor(c.p, one, c.factors)
		if n.Sign() != c.sign || !isFloor(c.p, one, c.factors, n) {
			t.Errorf("%d: Floor = %s", i, n.Int())
		}
		if least := Floor(c.p, c.factors, one); !isFloor(c.p, c.factors, one, least) {
			t.Errorf("%d: Floor = %s", i, least.Int())
		}
	}
}
