package comma_test

import (
	"cmp"
	"math"
	"math/big"
	"slices"

	"schisma/api"
	"schisma/comma"
)

// pair is a fraction of ints in lowest terms.
type pair struct{ num, den int }

// exponents returns those of the primes of a list in a number, and what is left of it.
func exponents(p api.Primes, n int) (x api.Row, rest int) {
	x = make(api.Row, len(p))
	for i, prime := range p {
		for n%prime == 0 {
			n /= prime
			x[i]++
		}
	}
	return x, n
}

// isSmooth reports whether a number has the primes of a list alone.
func isSmooth(p api.Primes, n int) bool {
	_, rest := exponents(p, n)
	return rest == 1
}

// interval returns the interval of a fraction.
func (f pair) interval(p api.Primes) api.Row {
	above, _ := exponents(p, f.num)
	below, _ := exponents(p, f.den)
	return plus(above, -1, below)
}

// compare returns the order of two fractions.
func (f pair) compare(g pair) int {
	return cmp.Compare(f.num*g.den, g.num*f.den)
}

// intervals returns the intervals of fractions.
func intervals(p api.Primes, l []pair) []api.Row {
	var rows []api.Row
	for _, f := range l {
		rows = append(rows, f.interval(p))
	}
	return rows
}

// plus returns x and k times y.
func plus(x api.Row, k int, y api.Row) api.Row {
	z := make(api.Row, len(x))
	for i := range x {
		z[i] = x[i] + k*y[i]
	}
	return z
}

// sides returns numerator and denominator of an interval.
func sides(p api.Primes, x api.Row) (num, den *big.Int) {
	num, den = big.NewInt(1), big.NewInt(1)
	for i, n := range x {
		power := new(big.Int).Exp(big.NewInt(int64(p[i])), big.NewInt(int64(max(n, -n))), nil)
		if n > 0 {
			num.Mul(num, power)
		} else {
			den.Mul(den, power)
		}
	}
	return num, den
}

// isGreater reports whether an interval is greater than 1.
func isGreater(p api.Primes, x api.Row) bool {
	num, den := sides(p, x)
	return num.Cmp(den) > 0
}

// gcd returns the greatest common divisor.
func gcd(a, b int) int {
	for b != 0 {
		a, b = b, a%b
	}
	return a
}

// smoothFractions returns all fractions greater than 1 in lowest terms of smooth numbers up to a limit, in the order of numerators, and then of denominators.
func smoothFractions(p api.Primes, height int) []pair {
	var l []pair
	for num := 2; num <= height; num++ {
		if !isSmooth(p, num) {
			continue
		}
		for den := 1; den < num; den++ {
			if gcd(num, den) == 1 && isSmooth(p, den) {
				l = append(l, pair{num, den})
			}
		}
	}
	return l
}

// list returns the fractions of a question in order.
func list(q comma.Question) []pair {
	num, den := sides(q.Primes, q.Most)
	return slices.DeleteFunc(smoothFractions(q.Primes, q.Height), func(f pair) bool {
		above := new(big.Int).Mul(den, big.NewInt(int64(f.num)))
		below := new(big.Int).Mul(num, big.NewInt(int64(f.den)))
		return above.Cmp(below) > 0
	})
}

// filled returns a row with one exponent.
func filled(n, i, k int) api.Row {
	x := make(api.Row, n)
	x[i] = k
	return x
}

// lists returns right lists of primes.
func lists() []api.Primes {
	return []api.Primes{{2}, {3}, {97}, {2, 3}, {2, 97}, {2, 3, 5}, {3, 5, 7}, {2, 7, 11, 13}, {2, 3, 5, 7, 11}, {2, 3, 5, 7, 11, 13}, {3, 5, 7, 11, 13, 17}, {73, 79, 83, 89, 97}}
}

// questions returns right questions with less than MaxList intervals.
func questions() []comma.Question {
	var l []comma.Question
	for _, p := range lists() {
		n := len(p)
		for _, height := range []int{1, 2, 3, 16, 81, 100, 250} {
			l = append(l, comma.Question{Primes: p, Height: height, Most: filled(n, 0, 1)}, comma.Question{Primes: p, Height: height, Most: filled(n, n-1, api.MaxExponent)})
			if n > 1 {
				some := filled(n, n-1, 1)
				some[n-2] = -1
				l = append(l, comma.Question{Primes: p, Height: height, Most: some})
			}
		}
	}
	five, two := api.Primes{2, 3, 5}, api.Primes{2, 3}
	for _, most := range []api.Row{{-4, 4, -1}, {-3, -1, 2}, {-2, 0, 1}, {-3, 2, 0}, {1, -2, 1}, {-15, 8, 1}, {0, 0, 1}} {
		for _, height := range []int{79, 80, 81, 128, comma.MaxHeight} {
			l = append(l, comma.Question{Primes: five, Height: height, Most: most})
		}
	}
	// Bounds that are nearly 9/8, 4/3 and 2 are as exact as all others.
	for _, near := range []api.Row{{-3, 2}, {2, -1}, {1, 0}} {
		for _, k := range []int{-1, 0, 1} {
			l = append(l, comma.Question{Primes: two, Height: 100, Most: plus(near, k, api.Row{-485, 306})})
		}
	}
	return l
}

// equal reports whether lists of intervals are equal.
func equal(a, b []api.Row) bool {
	return slices.EqualFunc(a, b, func(x, y api.Row) bool { return slices.Equal(x, y) })
}

// wrongQuestion is a question that is not right, with its error.
type wrongQuestion struct {
	q comma.Question
	e api.Errno
}

// wrongQuestions returns questions with each error, and with several, of which the first one counts.
func wrongQuestions() []wrongQuestion {
	p, right := api.Primes{2, 3, 5}, api.Row{-4, 4, -1}
	l := []wrongQuestion{
		{comma.Question{}, api.ErrEmpty},
		{comma.Question{Primes: api.Primes{2, 3, 5, 7, 11, 13, 17}, Height: 10, Most: right}, api.ErrLimit},
		{comma.Question{Primes: api.Primes{2, 4, 3}, Height: 0, Most: api.Row{1}}, api.ErrPrime},
		{comma.Question{Primes: api.Primes{2, 3, 101}, Height: 10, Most: api.Row{math.MaxInt, 0, 0}}, api.ErrPrime},
		{comma.Question{Primes: api.Primes{3, 2, 5}, Height: 10, Most: right}, api.ErrOrder},
		{comma.Question{Primes: api.Primes{2, 2}, Height: -1, Most: nil}, api.ErrOrder},
	}
	for _, height := range []int{math.MinInt, 0, 1, 10, comma.MaxHeight + 1} {
		for _, most := range []api.Row{nil, {1}, {1, 0, 0, 0}, {1001, 0}} {
			l = append(l, wrongQuestion{comma.Question{Primes: p, Height: height, Most: most}, api.ErrSize})
		}
		for _, most := range []api.Row{{1001, 0, 0}, {0, 0, -1001}, {math.MinInt, math.MaxInt, 0}} {
			l = append(l, wrongQuestion{comma.Question{Primes: p, Height: height, Most: most}, api.ErrLimit})
		}
		for _, most := range []api.Row{{0, 0, 0}, {4, -4, 1}, {-1, 0, 0}, {-485, 306, 0}, {0, 0, -1000}} {
			l = append(l, wrongQuestion{comma.Question{Primes: p, Height: height, Most: most}, api.ErrRange})
		}
	}
	for _, height := range []int{0, -1, math.MinInt, math.MaxInt, comma.MaxHeight + 1} {
		l = append(l, wrongQuestion{comma.Question{Primes: p, Height: height, Most: right}, api.ErrRange})
	}
	return l
}

// wrongForm is a matrix that is no lattice over three primes, with its error.
type wrongForm struct {
	form api.Matrix
	e    api.Errno
}

// wrongForms returns some of them.
func wrongForms() []wrongForm {
	return []wrongForm{
		{make(api.Matrix, 13), api.ErrLimit}, {api.Matrix{make(api.Row, 13)}, api.ErrLimit}, {api.Matrix{{1, 0}, {0}}, api.ErrSize}, {api.Matrix{{1, 0, api.MaxEntry + 1}}, api.ErrLimit}, {api.Matrix{{0, math.MinInt}}, api.ErrLimit},
		{api.Matrix{{}}, api.ErrForm}, {api.Matrix{{0, 0, 0}}, api.ErrForm}, {api.Matrix{{-4, 4, -1}}, api.ErrForm}, {api.Matrix{{0, 1, 0}, {1, 0, 0}}, api.ErrForm}, {api.Matrix{{1, 2, 0}, {0, 2, 0}}, api.ErrForm}, {api.Matrix{{1, -1}, {0, 1}}, api.ErrForm},
		{api.Matrix{{1, 0}}, api.ErrSize}, {api.Matrix{{1, 0, 0, 0}}, api.ErrSize}, {api.Matrix{{1}}, api.ErrSize}, {api.Matrix{{1, 0, 0, 0}, {0, 1, 0, 0}, {0, 0, 1, 0}, {0, 0, 0, 1}}, api.ErrSize},
	}
}
