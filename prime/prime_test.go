package prime_test

import (
	"math"
	"math/big"
	"slices"
	"strconv"
	"strings"
	"testing"

	"schisma/api"
	"schisma/fraction"
	"schisma/prime"
	"schisma/row"
)

// P11.1

func TestIsPrime(t *testing.T) {
	for n := -100; n <= 1000; n++ {
		want := n <= api.MaxPrime && big.NewInt(int64(n)).ProbablyPrime(0) && n > 1
		if is := prime.IsPrime(n); is != want {
			t.Errorf("IsPrime(%d) = %t", n, is)
		}
	}
	for _, n := range []int{math.MinInt, math.MinInt + 1, math.MaxInt, 1<<61 - 1, 1<<31 - 1} {
		if prime.IsPrime(n) {
			t.Errorf("IsPrime(%d)", n)
		}
	}
}

func TestCheck(t *testing.T) {
	for _, p := range lists() {
		if e := prime.Check(p); e != api.OK {
			t.Errorf("Check(%v) = %d", p, e)
		}
	}
	for _, c := range wrongLists() {
		if e := prime.Check(c.p); e != c.e {
			t.Errorf("Check(%v) = %d", c.p, e)
		}
	}
}

// P11.2

func TestFirst(t *testing.T) {
	want := api.Primes{2, 3, 5, 7, 11, 13}
	for count := 1; count <= api.MaxPrimes; count++ {
		p, e := prime.First(count)
		if e != api.OK || !slices.Equal(p, want[:count]) {
			t.Errorf("First(%d) = %v, %d", count, p, e)
		}
		if cap(p) != count {
			t.Errorf("First(%d) has room for %d", count, cap(p))
		}
		p[0] = 0
		if again, e := prime.First(count); e != api.OK || again[0] != 2 {
			t.Errorf("First(%d) = %v, %d after a change of the result", count, again, e)
		}
	}
	for _, count := range []int{math.MinInt, -1, 0, 7, 25, math.MaxInt} {
		if p, e := prime.First(count); e != api.ErrRange || p != nil {
			t.Errorf("First(%d) = %v, %d", count, p, e)
		}
	}
}

func TestUpTo(t *testing.T) {
	for limit := -10; limit <= 120; limit++ {
		var want api.Primes
		for n := 2; n <= limit; n++ {
			if big.NewInt(int64(n)).ProbablyPrime(0) {
				want = append(want, n)
			}
		}
		e := api.OK
		switch {
		case limit < 2:
			e = api.ErrRange
		case len(want) > api.MaxPrimes:
			want, e = nil, api.ErrLimit
		}
		if p, f := prime.UpTo(limit); f != e || !slices.Equal(p, want) {
			t.Errorf("UpTo(%d) = %v, %d", limit, p, f)
		}
	}
	for limit, want := range map[int]api.Errno{math.MinInt: api.ErrRange, math.MaxInt: api.ErrLimit} {
		if p, e := prime.UpTo(limit); e != want || p != nil {
			t.Errorf("UpTo(%d) = %v, %d", limit, p, e)
		}
	}
}

// P11.3

func TestValueAndFactor(t *testing.T) {
	for _, p := range lists() {
		for _, x := range rows(len(p)) {
			want, right := rational(value(p, x))
			q, e := prime.Value(p, x)
			if !right {
				if e != api.ErrLimit || q != (api.Rational{}) {
					t.Errorf("Value(%v, %v): %d", p, x, e)
				}
				continue
			}
			if e != api.OK || q != want {
				t.Errorf("Value(%v, %v) = %v, %d", p, x, q, e)
			}
			if r, e := prime.Factor(p, want); e != api.OK || !slices.Equal(r, x) {
				t.Errorf("Factor(%v, %v) = %v, %d, not %v", p, want, r, e, x)
			}
			if is, e := prime.Smooth(p, want); e != api.OK || !is {
				t.Errorf("Smooth(%v, %v) = %t, %d", p, want, is, e)
			}
			if is, e := prime.Smooth(p, fraction.Neg(want)); e != api.OK || is {
				t.Errorf("Smooth(%v) of the negative of %v = %t, %d", p, want, is, e)
			}
		}
	}
}

// The longest values have just as many digits as a right integer.
func TestValueAtTheLimit(t *testing.T) {
	for _, p := range []api.Primes{{3}, {2, 97}, {5, 7, 11}} {
		last := len(p) - 1
		for n := 1; n <= api.MaxExponent; n++ {
			x := make(api.Row, len(p))
			x[last] = n
			_, right := rational(value(p, x))
			_, e := prime.Value(p, x)
			x[last] = -n
			_, f := prime.Value(p, x)
			if (e == api.OK) != right || e != f || !right && e != api.ErrLimit {
				t.Errorf("Value of %d to the power %d: %d, %d", p[last], n, e, f)
			}
		}
	}
}

func TestFactorErrors(t *testing.T) {
	five := api.Primes{2, 3, 5}
	power := func(n, exponent int64) api.Int {
		return api.Int(new(big.Int).Exp(big.NewInt(n), big.NewInt(exponent), nil).String())
	}
	times := func(n int64, a api.Int) api.Int {
		m, _ := new(big.Int).SetString(string(a), 10)
		return api.Int(m.Mul(m, big.NewInt(n)).String())
	}
	for i, c := range []struct {
		x      api.Rational
		e      api.Errno
		smooth bool
	}{
		{api.Rational{Num: "0", Den: "1"}, api.ErrRange, false},
		{api.Rational{Num: "-1", Den: "1"}, api.ErrRange, false},
		{api.Rational{Num: "-7", Den: "4"}, api.ErrRange, false}, // not smooth either
		{api.Rational{Num: "7", Den: "4"}, api.ErrPrime, false},
		{api.Rational{Num: "4", Den: "7"}, api.ErrPrime, false},
		{api.Rational{Num: "1", Den: "49"}, api.ErrPrime, false},
		{api.Rational{Num: "10403", Den: "1"}, api.ErrPrime, false}, // 101 times 103
		{api.Rational{Num: power(2, 1000), Den: "1"}, api.OK, true},
		{api.Rational{Num: "1", Den: power(2, 1000)}, api.OK, true},
		{api.Rational{Num: power(2, 1001), Den: "1"}, api.ErrLimit, true},
		{api.Rational{Num: "1", Den: power(2, 1001)}, api.ErrLimit, true},
		{api.Rational{Num: power(2, 1328), Den: power(3, 838)}, api.ErrLimit, true},
		{api.Rational{Num: times(7, power(2, 1100)), Den: "3"}, api.ErrPrime, false}, // too great a power, too
		{api.Rational{Num: power(2, 1100), Den: "7"}, api.ErrPrime, false},
	} {
		if r, e := prime.Factor(five, c.x); e != c.e || e != api.OK && r != nil {
			t.Errorf("%d: Factor = %v, %d", i, r, e)
		}
		if is, e := prime.Smooth(five, c.x); e != api.OK || is != c.smooth {
			t.Errorf("%d: Smooth = %t, %d", i, is, e)
		}
	}
}

// P11.4

func TestIndex(t *testing.T) {
	for _, c := range []struct {
		p     api.Primes
		prime int
		at    int
		is    bool
	}{
		{api.Primes{2, 3, 5}, 2, 0, true}, {api.Primes{2, 3, 5}, 5, 2, true}, {api.Primes{2, 3, 5}, 7, 0, false}, {nil, 2, 0, false},
		{api.Primes{9, 4, 4, -1}, 4, 1, true}, {api.Primes{9, 4, 4, -1}, -1, 3, true}, {api.Primes{9, 4, 4, -1}, 0, 0, false},
		{append(make(api.Primes, 500), math.MinInt), math.MinInt, 500, true},
	} {
		if at, is := prime.Index(c.p, c.prime); at != c.at || is != c.is {
			t.Errorf("Index(%v, %d) = %d, %t", c.p, c.prime, at, is)
		}
	}
}

func TestWithinAndJoin(t *testing.T) {
	for _, p := range lists() {
		for _, q := range append(lists(), parts(p)...) {
			union := map[int]bool{}
			within := true
			for _, n := range q {
				union[n] = true
			}
			for _, n := range p {
				within = within && union[n]
			}
			for _, n := range p {
				union[n] = true
			}
			if is, e := prime.Within(p, q); e != api.OK || is != within {
				t.Errorf("Within(%v, %v) = %t, %d", p, q, is, e)
			}
			var want api.Primes
			for n := range 100 {
				if union[n] {
					want = append(want, n)
				}
			}
			e := api.OK
			if len(want) > api.MaxPrimes {
				want, e = nil, api.ErrLimit
			}
			if join, f := prime.Join(p, q); f != e || !slices.Equal(join, want) {
				t.Errorf("Join(%v, %v) = %v, %d", p, q, join, f)
			}
		}
	}
}

// P11.5

func TestEmbedAndRestrict(t *testing.T) {
	for _, p := range lists() {
		for _, q := range append(lists(), parts(p)...) {
			for _, x := range append(rows(len(p)), sparse(len(p))...) {
				want := make(api.Row, len(q))
				lost := false
				for i, n := range x {
					at := slices.Index(q, p[i])
					if at >= 0 {
						want[at] = n
					}
					lost = lost || at < 0 && n != 0
				}
				if r, e := prime.Restrict(p, q, x); e != api.OK || !slices.Equal(r, want) {
					t.Errorf("Restrict(%v, %v, %v) = %v, %d", p, q, x, r, e)
				}
				r, e := prime.Embed(p, q, x)
				if lost {
					if e != api.ErrPrime || r != nil {
						t.Errorf("Embed(%v, %v, %v) = %v, %d", p, q, x, r, e)
					}
				} else if e != api.OK || !slices.Equal(r, want) || value(q, r).Cmp(value(p, x)) != 0 {
					t.Errorf("Embed(%v, %v, %v) = %v, %d", p, q, x, r, e)
				}
			}
		}
	}
}

// sparse returns rows with a few exponents that are not 0.
func sparse(n int) []api.Row {
	var l []api.Row
	for set := range 1 << n {
		x := make(api.Row, n)
		for i := range n {
			if set>>i&1 == 1 {
				x[i] = i - 7
			}
		}
		l = append(l, x)
	}
	return l
}

// P11.6

func TestTextAndParse(t *testing.T) {
	for _, p := range lists() {
		var words []string
		for _, n := range p {
			words = append(words, strconv.Itoa(n))
		}
		want := strings.Join(words, ".")
		if s, e := prime.Text(p); e != api.OK || s != want {
			t.Errorf("Text(%v) = %q, %d", p, s, e)
		}
		if q, e := prime.Parse(want); e != api.OK || !slices.Equal(q, p) {
			t.Errorf("Parse(%q) = %v, %d", want, q, e)
		}
	}
}

func TestParseErrors(t *testing.T) {
	for _, s := range []string{
		"", ".", "2.", ".2", "2..3", "2.3.", "02", "2.03", "00", "2 .3", " 2", "2 ", "2,3", "+2", "-2", "2.-3", "2x", "x", "2.3.5x", "0x2", "2.1000", "1000", "0101", "2\n", "2_3", "\xff", "２", "2.3.5.\x00",
		strings.Repeat("2.", 20) + "3", // 41 bytes
		strings.Repeat("2", 41), strings.Repeat("2.", 5000) + "2",
	} {
		if p, e := prime.Parse(s); e != api.ErrSyntax || p != nil {
			t.Errorf("Parse(%q) = %v, %d", s, p, e)
		}
	}
	for _, c := range []struct {
		s string
		e api.Errno
	}{
		{"0", api.ErrPrime}, {"1", api.ErrPrime}, {"2.9", api.ErrPrime}, {"101", api.ErrPrime}, {"999", api.ErrPrime}, {"2.0.3", api.ErrPrime},
		{"3.2", api.ErrOrder}, {"2.2", api.ErrOrder}, {"2.5.3.4", api.ErrOrder},
		{"2.3.5.7.11.13.17", api.ErrLimit}, {"9.9.9.9.9.9.9", api.ErrLimit},
		{strings.Repeat("2.", 18) + "3.97", api.ErrLimit}, // 40 bytes
	} {
		if p, e := prime.Parse(c.s); e != c.e || p != nil {
			t.Errorf("Parse(%q) = %v, %d", c.s, p, e)
		}
	}
}

// P11.7

func TestProductsAndSums(t *testing.T) {
	for _, p := range lists() {
		l := rows(len(p))
		for i, x := range l {
			y := l[(5*i+3)%len(l)]
			a, e := prime.Value(p, x)
			b, f := prime.Value(p, y)
			sum, g := row.Add(x, y)
			product := fraction.Mul(a, b)
			if e != api.OK || f != api.OK || g != api.OK || fraction.Check(product) != api.OK {
				continue
			}
			if r, e := prime.Factor(p, product); slices.Max(sum) <= api.MaxExponent && slices.Min(sum) >= -api.MaxExponent && (e != api.OK || !slices.Equal(r, sum)) {
				t.Errorf("Factor(%v, %v) = %v, %d, not %v", p, product, r, e, sum)
			}
		}
	}
}

func TestThereAndBack(t *testing.T) {
	whole := api.Primes{2, 3, 5, 7, 11, 13}
	for _, p := range parts(whole) {
		if join, e := prime.Join(whole, p); e != api.OK || !slices.Equal(join, whole) {
			t.Errorf("Join(%v, %v) = %v, %d", whole, p, join, e)
		}
		for _, x := range rows(len(p)) {
			y, e := prime.Embed(p, whole, x)
			back, f := prime.Embed(whole, p, y)
			restricted, g := prime.Restrict(whole, p, y)
			if e != api.OK || f != api.OK || g != api.OK || !slices.Equal(back, x) || !slices.Equal(restricted, x) {
				t.Errorf("%v over %v comes back as %v and %v", x, p, back, restricted)
			}
		}
	}
}

// The examples of the document.
func TestExamples(t *testing.T) {
	five := api.Primes{2, 3, 5}
	if x, e := prime.Factor(five, api.Rational{Num: "81", Den: "80"}); e != api.OK || !slices.Equal(x, api.Row{-4, 4, -1}) {
		t.Errorf("Factor = %v, %d", x, e)
	}
	if q, e := prime.Value(five, api.Row{1, -2, 1}); e != api.OK || q != (api.Rational{Num: "10", Den: "9"}) {
		t.Errorf("Value = %v, %d", q, e)
	}
	if x, e := prime.Restrict(five, api.Primes{3, 5, 7}, api.Row{1, -2, 1}); e != api.OK || !slices.Equal(x, api.Row{-2, 1, 0}) {
		t.Errorf("Restrict = %v, %d", x, e)
	}
}
