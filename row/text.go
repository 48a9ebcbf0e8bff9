package row

import (
	"strconv"
	"strings"

	"schisma/api"
)

// Text writes a row: [-4 4 -1> for an interval (ket), <12 19 28] for a mapping.
func Text(r api.Row, ket bool) (string, api.Errno) {
	if e := Check(r); e != api.OK {
		return "", e
	}
	words := make([]string, len(r))
	for i, n := range r {
		words[i] = strconv.Itoa(n)
	}
	text := strings.Join(words, " ")
	if ket {
		return "[" + text + ">", api.OK
	}
	return "<" + text + "]", api.OK
}

// Parse reads a row, and reports whether it is a ket.
func Parse(s string) (r api.Row, ket bool, e api.Errno) {
	if len(s) > api.MaxText {
		return nil, false, api.ErrLong
	}
	inner, ket, is := unwrap(s)
	if !is {
		return nil, false, api.ErrSyntax
	}
	if inner == "" {
		return nil, ket, api.OK
	}
	for word := range strings.SplitSeq(inner, " ") {
		if !isCanonical(word) {
			return nil, false, api.ErrSyntax
		}
		n, _ := strconv.Atoi(word) // of one that is too great the greatest int, which is no element either
		r = append(r, n)
	}
	if e := Check(r); e != api.OK {
		return nil, false, e
	}
	return r, ket, api.OK
}

// unwrap returns what is between the brackets of a ket or a bra.
func unwrap(s string) (inner string, ket, is bool) {
	inner, begins := strings.CutPrefix(s, "[")
	inner, ends := strings.CutSuffix(inner, ">")
	if begins && ends {
		return inner, true, true
	}
	inner, begins = strings.CutPrefix(s, "<")
	inner, ends = strings.CutSuffix(inner, "]")
	return inner, false, begins && ends
}

// isCanonical reports whether a text is an integer without superfluous zeros and signs.
func isCanonical(s string) bool {
	digits := strings.TrimPrefix(s, "-")
	if digits == "" || digits[0] == '0' && s != "0" {
		return false
	}
	return strings.Trim(digits, "0123456789") == ""
}
