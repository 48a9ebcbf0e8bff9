package convergent

import (
	"strings"

	"schisma/api"
	"schisma/fraction"
	"schisma/whole"
)

// Path returns the way to a positive fraction in the tree of Stern and Brocot.
func Path(x api.Rational) (string, api.Errno) {
	if e := fraction.Check(x); e != api.OK {
		return "", e
	}
	if fraction.Sign(x) <= 0 {
		return "", api.ErrRange
	}
	// The last term counts one letter too many: 1, to which no letter leads, has the term 1.
	path, letter, other := "", "R", "L"
	for a := range termsOf(x) {
		n, is := whole.Small(a)
		if !is || n > MaxPath+1-len(path) {
			return "", api.ErrLong
		}
		path += strings.Repeat(letter, n)
		letter, other = other, letter
	}
	return path[:len(path)-1], api.OK
}

// At returns the fraction of a way.
func At(path string) (api.Rational, api.Errno) {
	if len(path) > MaxPath {
		return api.Rational{}, api.ErrLong
	}
	lesser, greater := nought(), infinite()
	at := ahead(lesser, greater, "1")
	for _, letter := range path {
		switch letter {
		case 'L':
			greater = at
		case 'R':
			lesser = at
		default:
			return api.Rational{}, api.ErrSyntax
		}
		at = ahead(lesser, greater, "1")
	}
	return at, api.OK
}
