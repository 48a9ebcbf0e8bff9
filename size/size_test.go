package size_test

import (
	"fmt"
	"math/big"
	"math/rand/v2"
	"slices"
	"strings"
	"testing"

	"schisma/api"
	"schisma/monzo"
	"schisma/prime"
	"schisma/size"
)

// expect checks a size that was calculated.
func expect(t *testing.T, what string, got api.Size, e api.Errno, want vector) {
	t.Helper()
	s, right := want.size()
	if right && (e != api.OK || !slices.Equal(got, s)) || !right && (e != api.ErrLimit || got != nil) {
		t.Errorf("%s = %v, %d, not %v", what, got, e, s)
	}
}

// P13.1

func TestCheck(t *testing.T) {
	for _, p := range lists() {
		l := samples(len(p))
		for _, s := range l {
			if e := size.Check(p, s); e != api.OK {
				t.Errorf("Check(%v, %v) = %d", p, s, e)
			}
		}
		for _, l := range [][]api.Size{nil, l} {
			if e := size.CheckAll(p, l); e != api.OK {
				t.Errorf("CheckAll(%v) = %d", p, e)
			}
		}
	}
	two, right := api.Primes{2, 3}, integral("1", "-"+power(29))
	for _, c := range wrongSizes() {
		if e := size.Check(two, c.s); e != c.e {
			t.Errorf("Check(%v) = %d, not %d", c.s, e, c.e)
		}
		for _, d := range wrongSizes() {
			if e := size.CheckAll(two, []api.Size{right, c.s, right, d.s}); e != c.e {
				t.Errorf("CheckAll of %v before %v = %d, not %d", c.s, d.s, e, c.e)
			}
		}
	}
}

// P13.2

func TestZeroEquaveAndOf(t *testing.T) {
	for _, p := range lists() {
		zero, first := make(vector, len(p)), make(vector, len(p))
		for i := range p {
			zero[i], first[i] = new(big.Rat), new(big.Rat)
		}
		first[0].SetInt64(1)
		s, e := size.Zero(p)
		expect(t, "Zero", s, e, zero)
		s, e = size.Equave(p)
		expect(t, "Equave", s, e, first)
		for _, k := range []int{0, 1, -3, api.MaxExponent, -api.MaxExponent} {
			x := make(api.Row, len(p))
			want := make(vector, len(p))
			for i := range x {
				x[i] = k / (i + 1)
				want[i] = big.NewRat(int64(x[i]), 1)
			}
			s, e := size.Of(p, x)
			expect(t, fmt.Sprint("Of", p, x), s, e, want)
		}
	}
	for _, c := range []struct {
		x api.Row
		e api.Errno
	}{{nil, api.ErrSize}, {api.Row{1, 2, 3}, api.ErrSize}, {api.Row{5000}, api.ErrSize}, {api.Row{0, 1001}, api.ErrLimit}, {api.Row{-1001, 0}, api.ErrLimit}} {
		if s, e := size.Of(api.Primes{2, 3}, c.x); e != c.e || s != nil {
			t.Errorf("Of(%v) = %v, %d", c.x, s, e)
		}
	}
}

// P13.3

func TestAddAndSub(t *testing.T) {
	one, minus := big.NewRat(1, 1), big.NewRat(-1, 1)
	for _, p := range lists() {
		for _, a := range samples(len(p)) {
			for _, b := range samples(len(p)) {
				v, w := vectorOf(a), vectorOf(b)
				sum, e := size.Add(p, a, b)
				expect(t, fmt.Sprint("Add of ", a, b), sum, e, v.plus(one, w))
				difference, e := size.Sub(p, a, b)
				expect(t, fmt.Sprint("Sub of ", a, b), difference, e, v.plus(minus, w))
			}
		}
	}
}

// factors returns right fractions, among them the longest.
func factors() []api.Rational {
	nines := api.Int(strings.Repeat("9", api.MaxDigits))
	return []api.Rational{rational(0, 1), rational(1, 1), rational(-1, 1), rational(2, 3), rational(-12, 7), {Num: power(25), Den: "3"}, {Num: "7", Den: power(28)}, {Num: nines, Den: "1"}, {Num: "-1", Den: nines}, {Num: nines, Den: power(399)}}
}

func TestScale(t *testing.T) {
	for _, p := range lists() {
		for _, a := range samples(len(p)) {
			v := vectorOf(a)
			for _, k := range factors() {
				s, e := size.Scale(p, a, k)
				zero := v.plus(big.NewRat(-1, 1), v)
				expect(t, fmt.Sprint("Scale of ", a, " by ", k), s, e, zero.plus(standard(k), v))
			}
		}
	}
	for _, k := range wrongFractions() {
		// The result would also be too long.
		if s, e := size.Scale(api.Primes{2}, api.Size{{Num: power(29), Den: "1"}}, k); e != api.ErrNumber || s != nil {
			t.Errorf("Scale by %v = %v, %d", k, s, e)
		}
	}
}

func TestCombine(t *testing.T) {
	r := rand.New(rand.NewPCG(13, 3))
	for _, p := range lists() {
		l, k := samples(len(p)), factors()
		for count := range 5 {
			for range 30 {
				var sizes []api.Size
				var some []api.Rational
				sum := vectorOf(l[0])
				sum = sum.plus(big.NewRat(-1, 1), sum)
				for range count {
					a, factor := l[r.IntN(len(l))], k[r.IntN(len(k))]
					sizes, some = append(sizes, a), append(some, factor)
					sum = sum.plus(standard(factor), vectorOf(a))
				}
				s, e := size.Combine(p, sizes, some)
				expect(t, fmt.Sprint("Combine of ", sizes, some), s, e, sum)
			}
		}
	}
}

// Numbers on the way can be as long as they like.
func TestLongWays(t *testing.T) {
	p := api.Primes{2, 3}
	a, b := integral("1", "2"), integral("3", "-5")
	great := api.Rational{Num: api.Int(strings.Repeat("7", 400)), Den: power(399)}
	less := api.Rational{Num: "-" + great.Num, Den: great.Den}
	s, e := size.Combine(p, []api.Size{a, b, a}, []api.Rational{great, rational(1, 2), less})
	expect(t, "Combine", s, e, vector{big.NewRat(3, 2), big.NewRat(-5, 2)})
	long := api.Size{{Num: "1", Den: api.Int(strings.Repeat("9", 30))}, {Num: api.Int(strings.Repeat("9", 30)), Den: "1"}}
	s, e = size.Sub(p, long, long)
	expect(t, "Sub", s, e, vector{new(big.Rat), new(big.Rat)})
	s, e = size.Remainder(p, integral(power(29), "0"), integral(power(29), "0"))
	expect(t, "Remainder", s, e, vector{new(big.Rat), new(big.Rat)})
}

func TestCombineErrors(t *testing.T) {
	p, a, long := api.Primes{2}, integral("1"), integral(power(29))
	half, ten := rational(1, 2), rational(10, 1)
	for i, c := range []struct {
		l []api.Size
		k []api.Rational
		e api.Errno
	}{
		{nil, []api.Rational{half}, api.ErrSize},
		{[]api.Size{a}, nil, api.ErrSize},
		{[]api.Size{a, a}, []api.Rational{{}, half, half}, api.ErrSize},
		{[]api.Size{a, a}, []api.Rational{{}}, api.ErrSize},
		{[]api.Size{{}, a}, nil, api.ErrSize},
		{[]api.Size{a, {{}}}, nil, api.ErrNumber},
		{[]api.Size{a, integral(power(30))}, []api.Rational{{}}, api.ErrLimit},
		{[]api.Size{a, a}, []api.Rational{half, {}}, api.ErrNumber},
		{[]api.Size{long, a}, []api.Rational{ten, {Num: "2", Den: "4"}}, api.ErrNumber},
		{[]api.Size{long, a}, []api.Rational{ten, half}, api.ErrLimit},
		{[]api.Size{a}, []api.Rational{{Num: "1", Den: power(30)}}, api.ErrLimit},
	} {
		if s, e := size.Combine(p, c.l, c.k); e != c.e || s != nil {
			t.Errorf("%d: Combine = %v, %d, not %d", i, s, e, c.e)
		}
	}
}

// P13.4

func TestEqual(t *testing.T) {
	half := rational(1, 2)
	for _, c := range []struct {
		a, b  api.Size
		equal bool
	}{
		{nil, nil, true}, {nil, api.Size{}, true}, {api.Size{}, nil, true}, {api.Size{half}, api.Size{half}, true}, {api.Size{{}}, api.Size{{}}, true},
		{nil, api.Size{half}, false}, {api.Size{half}, api.Size{half, half}, false}, {api.Size{half, half}, api.Size{half, rational(1, 3)}, false}, {api.Size{{}}, nil, false},
		{make(api.Size, 200), make(api.Size, 200), true}, {make(api.Size, 200), make(api.Size, 201), false},
	} {
		if size.Equal(c.a, c.b) != c.equal {
			t.Errorf("Equal(%v, %v) is not %t", c.a, c.b, c.equal)
		}
	}
}

func TestSignCompareAndAbs(t *testing.T) {
	minus := big.NewRat(-1, 1)
	for _, p := range lists() {
		l := samples(len(p))
		for _, a := range l {
			v := vectorOf(a)
			want := v.sign(p)
			if sign, e := size.Sign(p, a); e != api.OK || sign != want {
				t.Errorf("Sign(%v, %v) = %d, %d", p, a, sign, e)
			}
			if want < 0 {
				v = v.plus(big.NewRat(-2, 1), v)
			}
			abs, e := size.Abs(p, a)
			expect(t, fmt.Sprint("Abs of ", a), abs, e, v)
			for _, b := range l {
				want := vectorOf(a).plus(minus, vectorOf(b)).sign(p)
				if c, e := size.Compare(p, a, b); e != api.OK || c != want {
					t.Errorf("Compare(%v, %v, %v) = %d, %d", p, a, b, c, e)
				}
			}
		}
	}
}

// Only many digits of the logarithms decide here.
func TestSignNearZero(t *testing.T) {
	for text, l := range nearZero() {
		p, _ := prime.Parse(text)
		zero, _ := size.Zero(p)
		for _, a := range l {
			want := vectorOf(a).sign(p)
			sign, e := size.Sign(p, a)
			c, f := size.Compare(p, zero, a)
			if e != api.OK || f != api.OK || sign != want || c != -want {
				t.Errorf("Sign(%v) = %d, %d", a, sign, c)
			}
		}
	}
}

// P13.5

// isFloor reports whether n is the greatest integer that is not greater than the quotient of two sizes.
func isFloor(p api.Primes, v, w vector, n api.Int) bool {
	times, ok := new(big.Rat).SetString("-" + string(n))
	if n[0] == '-' {
		times, ok = new(big.Rat).SetString(string(n[1:]))
	}
	rest := v.plus(times, w)
	beyond := rest.plus(big.NewRat(-1, 1), w)
	sign := w.sign(p)
	return ok && times.IsInt() && rest.sign(p) != -sign && beyond.sign(p) == -sign
}

// quotients checks Floor, Round and Remainder of two sizes, of which the second one is not 0.
func quotients(t *testing.T, p api.Primes, a, b api.Size) {
	t.Helper()
	v, w := vectorOf(a), vectorOf(b)
	floor, e := size.Floor(p, a, b)
	if e != api.OK || !isFloor(p, v, w, floor) {
		t.Errorf("Floor(%v, %v, %v) = %s, %d", p, a, b, floor, e)
		return
	}
	round, e := size.Round(p, a, b)
	if e != api.OK || !isFloor(p, v.plus(big.NewRat(1, 2), w), w, round) {
		t.Errorf("Round(%v, %v, %v) = %s, %d", p, a, b, round, e)
	}
	times, _ := new(big.Rat).SetString(string(floor))
	rest, e := size.Remainder(p, a, b)
	expect(t, fmt.Sprint("Remainder of ", a, " by ", b), rest, e, v.plus(times.Neg(times), w))
}

func TestQuotients(t *testing.T) {
	for _, p := range lists() {
		l := samples(len(p))
		for i, a := range l {
			for j := i % 3; j < len(l); j += 3 {
				b := l[j]
				if vectorOf(b).sign(p) != 0 {
					quotients(t, p, a, b)
					continue
				}
				floor, e := size.Floor(p, a, b)
				round, f := size.Round(p, a, b)
				rest, g := size.Remainder(p, a, b)
				if e != api.ErrZero || f != api.ErrZero || g != api.ErrZero || floor != "" || round != "" || rest != nil {
					t.Errorf("division by 0: %s, %s, %v", floor, round, rest)
				}
			}
		}
	}
}

// Quotients by sizes that are nearly 0 have many digits, and quotients that are integers, or lie between two, need no logarithms.
func TestGreatAndExactQuotients(t *testing.T) {
	for text, l := range nearZero() {
		p, _ := prime.Parse(text)
		equave, _ := size.Equave(p)
		great, _ := size.Scale(p, equave, api.Rational{Num: power(29), Den: "1"})
		for _, a := range l {
			quotients(t, p, great, a)
			quotients(t, p, a, great)
			quotients(t, p, equave, a)
			quotients(t, p, a, l[0])
		}
	}
	p, comma := api.Primes{2, 3, 5}, integral("-4", "4", "-1")
	for n := int64(-9); n < 10; n++ {
		for _, m := range []int64{1, 2, 3, 4, -1, -2, -3} {
			b, _ := size.Scale(p, comma, rational(m, 4))
			a, _ := size.Scale(p, comma, rational(n, 8))
			floor := new(big.Int).Div(new(big.Int).Mul(big.NewInt(4*n), big.NewInt(m)), big.NewInt(8*m*m))
			nearest := new(big.Int).Div(big.NewInt(4*n*m+4*m*m), big.NewInt(8*m*m))
			f, _ := size.Floor(p, a, b)
			r, _ := size.Round(p, a, b)
			if string(f) != floor.String() || string(r) != nearest.String() {
				t.Errorf("the quotient of %d/8 and %d/4 is %s, %s", n, m, f, r)
			}
			quotients(t, p, a, b)
		}
	}
}

// The remainder can be too long, though both sizes are right.
func TestRemainderLimit(t *testing.T) {
	p := api.Primes{2, 3}
	a, b := integral(power(29), "0"), api.Size{rational(0, 1), rational(1, 100_003)}
	if s, e := size.Remainder(p, a, b); e != api.ErrLimit || s != nil {
		t.Errorf("Remainder = %v, %d", s, e)
	}
}

// P13.6

func TestSort(t *testing.T) {
	minus := big.NewRat(-1, 1)
	for _, p := range lists() {
		l := samples(len(p))
		l = append(l, l...) // so that there are equal ones
		rand.New(rand.NewPCG(13, 4)).Shuffle(len(l), func(i, j int) { l[i], l[j] = l[j], l[i] })
		order, e := size.Sort(p, l)
		if e != api.OK || len(order) != len(l) {
			t.Fatalf("Sort: %d indices, %d", len(order), e)
		}
		for i := 1; i < len(order); i++ {
			before, behind := order[i-1], order[i]
			sign := vectorOf(l[behind]).plus(minus, vectorOf(l[before])).sign(p)
			if sign < 0 || sign == 0 && before >= behind {
				t.Errorf("Sort has %d before %d: %v, %v", before, behind, l[before], l[behind])
			}
		}
		slices.Sort(order)
		for i, at := range order {
			if i != at {
				t.Fatalf("Sort has %d at %d", at, i)
			}
		}
	}
	if order, e := size.Sort(api.Primes{2}, nil); e != api.OK || len(order) != 0 {
		t.Errorf("Sort of nothing = %v, %d", order, e)
	}
}

func TestText(t *testing.T) {
	p := api.Primes{2, 3, 97}
	for _, c := range []struct {
		a    api.Size
		want string
	}{
		{integral("0", "0", "0"), "1"}, {integral("1", "0", "0"), "2"}, {integral("0", "1", "1"), "3 97"}, {integral("2", "0", "10"), "2^2 97^10"},
		{integral("-1", "-2", "0"), "2^(-1) 3^(-2)"}, {api.Size{rational(1, 2), rational(-1, 2), rational(7, 3)}, "2^(1/2) 3^(-1/2) 97^(7/3)"},
		{integral("0", power(29), "-"+power(29)), "3^" + string(power(29)) + " 97^(-" + string(power(29)) + ")"},
	} {
		if s, e := size.Text(p, c.a); e != api.OK || s != c.want {
			t.Errorf("Text(%v) = %q, %d, not %q", c.a, s, e, c.want)
		}
	}
}

// P13.7

func TestVectorSpace(t *testing.T) {
	r := rand.New(rand.NewPCG(13, 5))
	for _, p := range lists() {
		for i := range 200 {
			most := []int{1, 2, 4}[i%3]
			a, b, c := random(r, len(p), most, 1), random(r, len(p), most, 1), random(r, len(p), most, 1)
			order, _ := size.Compare(p, a, b)
			if back, _ := size.Compare(p, b, a); back != -order || (order == 0) != size.Equal(a, b) {
				t.Errorf("Compare of %v and %v: %d, %d", a, b, order, back)
			}
			ac, _ := size.Add(p, a, c)
			bc, _ := size.Add(p, b, c)
			if moved, e := size.Compare(p, ac, bc); e != api.OK || moved != order {
				t.Errorf("adding %v to %v and %v changes their order", c, a, b)
			}
			for _, k := range []api.Rational{rational(5, 3), rational(-2, 7), rational(0, 1)} {
				ka, _ := size.Scale(p, a, k)
				kb, _ := size.Scale(p, b, k)
				if scaled, e := size.Compare(p, ka, kb); e != api.OK || scaled != order*standard(k).Sign() {
					t.Errorf("%v times %v and %v: %d", k, a, b, scaled)
				}
			}
			sign, _ := size.Sign(p, b)
			if sign <= 0 {
				continue
			}
			rest, e := size.Remainder(p, a, b)
			ab, _ := size.Add(p, a, b)
			again, f := size.Remainder(p, ab, b)
			least, _ := size.Sign(p, rest)
			greatest, _ := size.Compare(p, rest, b)
			if e != api.OK || f != api.OK || least < 0 || greatest >= 0 || !size.Equal(rest, again) {
				t.Errorf("the remainders of %v by %v: %v, %v", a, b, rest, again)
			}
		}
	}
}

func TestIntervals(t *testing.T) {
	r := rand.New(rand.NewPCG(13, 6))
	for _, p := range lists() {
		for range 100 {
			x, y := make(api.Row, len(p)), make(api.Row, len(p))
			for i := range x {
				x[i], y[i] = r.IntN(41)-20, r.IntN(41)-20
			}
			a, _ := size.Of(p, x)
			b, _ := size.Of(p, y)
			xy, _ := monzo.Add(p, x, y)
			sum, _ := size.Add(p, a, b)
			if s, e := size.Of(p, xy); e != api.OK || !size.Equal(s, sum) {
				t.Errorf("the size of %v and %v is %v, %d", x, y, s, e)
			}
			want, _ := monzo.Sign(p, x)
			if sign, e := size.Sign(p, a); e != api.OK || sign != want {
				t.Errorf("Sign of the size of %v = %d, %d", x, sign, e)
			}
		}
	}
}

// The examples of the document.
func TestExamples(t *testing.T) {
	p := api.Primes{2, 3, 5}
	comma, _ := size.Of(p, api.Row{-4, 4, -1})
	fifth, _ := size.Of(p, api.Row{-1, 1, 0})
	octave, _ := size.Equave(p)
	tempered := api.Size{rational(0, 1), rational(0, 1), rational(1, 4)}
	if sign, e := size.Sign(p, comma); e != api.OK || sign != 1 {
		t.Errorf("Sign = %d, %d", sign, e)
	}
	if c, e := size.Compare(p, tempered, fifth); e != api.OK || c != -1 {
		t.Errorf("Compare = %d, %d", c, e)
	}
	if n, e := size.Floor(p, octave, comma); e != api.OK || n != "55" {
		t.Errorf("Floor = %s, %d", n, e)
	}
	twelve, _ := size.Scale(p, fifth, rational(12, 1))
	if n, e := size.Round(p, twelve, octave); e != api.OK || n != "7" {
		t.Errorf("Round = %s, %d", n, e)
	}
	if s, e := size.Text(p, api.Size{rational(1, 2), rational(-1, 4), rational(1, 1)}); e != api.OK || s != "2^(1/2) 3^(-1/4) 5" {
		t.Errorf("Text = %q, %d", s, e)
	}
}
