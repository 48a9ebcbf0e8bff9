package val

import (
	"strconv"
	"strings"

	"schisma/api"
	"schisma/prime"
)

// letter returns the wart of a prime: b for the second one.
func letter(index int) byte {
	return 'a' + byte(index)
}

// Name returns the name of a val: its first element with warts.
func Name(p api.Primes, v api.Row) (string, api.Errno) {
	if e := Check(p, v); e != api.OK {
		return "", e
	}
	steps := v[0]
	if e := checkSteps(p, steps); e != api.OK {
		return "", e
	}
	name := strconv.Itoa(steps)
	for i := 1; i < len(v); i++ {
		warts := newPlace(p, steps, i).number(v[i])
		if warts > MaxWarts {
			return "", api.ErrLimit
		}
		name += strings.Repeat(string(letter(i)), warts)
	}
	return name, api.OK
}

// Parse returns the val of a name.
func Parse(p api.Primes, s string) (api.Row, api.Errno) {
	if e := prime.Check(p); e != api.OK {
		return nil, e
	}
	warts := strings.TrimLeft(s, "0123456789")
	digits := strings.TrimSuffix(s, warts)
	if digits == "" || digits[0] == '0' || !areWarts(warts, len(p)) {
		return nil, api.ErrSyntax
	}
	steps, _ := strconv.Atoi(digits) // of a number that is too great the greatest int, which is out of range, too
	if steps > MaxSteps {
		return nil, api.ErrRange
	}
	v := api.Row{steps}
	for i := 1; i < len(p); i++ {
		count := strings.Count(warts, string(letter(i)))
		if count > MaxWarts {
			return nil, api.ErrLimit
		}
		v = append(v, newPlace(p, steps, i).at(count))
	}
	return v, api.OK
}

// areWarts reports whether a text consists of the letters of so many primes, without that of the equave, and they do not decrease.
func areWarts(s string, primes int) bool {
	least, beyond := letter(1), letter(primes)
	for i := range len(s) {
		if s[i] < least || s[i] >= beyond {
			return false
		}
		least = s[i]
	}
	return true
}
