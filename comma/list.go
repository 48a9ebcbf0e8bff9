package comma

import (
	"cmp"
	"slices"
	"sort"

	"schisma/api"
	"schisma/logarithm"
	"schisma/row"
)

// smooth is a number that has prime factors of a list alone, with its exponents.
type smooth struct {
	number    int
	exponents api.Row
}

// smoothUpTo returns all smooth numbers up to a limit, in increasing order.
func smoothUpTo(p api.Primes, limit int) []smooth {
	found := []smooth{{1, make(api.Row, len(p))}}
	for i, n := range p {
		// The list grows under way: a number that was added is multiplied by the same prime again.
		for at := 0; at < len(found); at++ {
			if product := found[at].number * n; product <= limit {
				exponents := slices.Clone(found[at].exponents)
				exponents[i]++
				found = append(found, smooth{product, exponents})
			}
		}
	}
	slices.SortFunc(found, func(a, b smooth) int { return cmp.Compare(a.number, b.number) })
	return found
}

// over returns the exponents of the quotient of two numbers.
func (a smooth) over(b smooth) api.Row {
	x, _ := row.Sub(a.exponents, b.exponents)
	return x
}

// shares reports whether two numbers have a prime factor in common.
func (a smooth) shares(b smooth) bool {
	for i, n := range a.exponents {
		if n > 0 && b.exponents[i] > 0 {
			return true
		}
	}
	return false
}

// list returns all intervals of a right question in order.
func (q Question) list() ([]api.Row, api.Errno) {
	var found []api.Row
	numbers := smoothUpTo(q.Primes, q.Height)
	for i, num := range numbers {
		// The greater the denominator, the smaller the interval.
		first := sort.Search(i, func(j int) bool {
			return logarithm.Compare(q.Primes, num.over(numbers[j]), q.Most) <= 0
		})
		for _, den := range numbers[first:i] {
			if num.shares(den) {
				continue
			}
			if len(found) == MaxList {
				return nil, api.ErrLimit
			}
			found = append(found, num.over(den))
		}
	}
	return found, api.OK
}
