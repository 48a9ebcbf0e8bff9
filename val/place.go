package val

import (
	"slices"

	"schisma/api"
	"schisma/prime"
	"schisma/size"
	"schisma/whole"
)

// Nearest returns the integer that is nearest to the place of a prime.
func Nearest(p api.Primes, steps, index int) (int, api.Errno) {
	if e := checkSteps(p, steps); e != api.OK {
		return 0, e
	}
	if index < 0 || index >= len(p) {
		return 0, api.ErrUnknown
	}
	return nearest(p, index, steps, 1), api.OK
}

// Patent returns the val of the integers that are nearest to the places of all primes.
func Patent(p api.Primes, steps int) (api.Row, api.Errno) {
	if e := checkSteps(p, steps); e != api.OK {
		return nil, e
	}
	return rounded(p, steps, 1), api.OK
}

// checkSteps returns the error of a list of primes, and of a number of steps.
func checkSteps(p api.Primes, steps int) api.Errno {
	if e := prime.Check(p); e != api.OK {
		return e
	}
	if steps < 1 || steps > MaxSteps {
		return api.ErrRange
	}
	return api.OK
}

// rounded returns the val of all primes for a fraction of steps: above divided by below.
func rounded(p api.Primes, above, below int) api.Row {
	v := make(api.Row, len(p))
	for i := range v {
		v[i] = nearest(p, i, above, below)
	}
	return v
}

// nearest returns the integer that is nearest to the place of a prime for a fraction of steps, the greater one of two.
func nearest(p api.Primes, index, above, below int) int {
	digits, _ := size.Round(p, multiple(p, index, above), multiple(p, 0, below))
	n, _ := whole.Small(digits)
	return n
}

// multiple returns so many times the size of a prime of a list.
func multiple(p api.Primes, index, times int) api.Size {
	s := slices.Repeat(api.Size{{Num: "0", Den: "1"}}, len(p))
	s[index].Num = whole.Of(times)
	return s
}

// place is where a prime is for a number of steps: near which integer, and on which side of it, 1 or -1.
type place struct{ nearest, side int }

// newPlace returns the place of a prime that is not the equave.
func newPlace(p api.Primes, steps, index int) place {
	n := nearest(p, index, steps, 1)
	side, _ := size.Compare(p, multiple(p, index, steps), multiple(p, 0, n))
	return place{n, side}
}

// at returns the nearest integer with a number.
func (l place) at(number int) int {
	distance := (number + 1) / 2
	if number%2 == 0 {
		distance = -distance
	}
	return l.nearest + l.side*distance
}

// number returns which one of the nearest integers an integer is.
func (l place) number(n int) int {
	distance := l.side * (n - l.nearest)
	if distance > 0 {
		return 2*distance - 1
	}
	return -2 * distance
}
