package prime

import (
	"strconv"
	"strings"

	"schisma/api"
)

// maxText is the greatest number of bytes of a text that can be read.
const maxText = 40

// Text returns the text of a list.
func Text(p api.Primes) (string, api.Errno) {
	if e := Check(p); e != api.OK {
		return "", e
	}
	words := make([]string, len(p))
	for i, n := range p {
		words[i] = strconv.Itoa(n)
	}
	return strings.Join(words, "."), api.OK
}

// Parse returns the list of a text.
func Parse(s string) (api.Primes, api.Errno) {
	if len(s) > maxText {
		return nil, api.ErrSyntax
	}
	var p api.Primes
	for word := range strings.SplitSeq(s, ".") {
		if !isNumber(word) {
			return nil, api.ErrSyntax
		}
		n, _ := strconv.Atoi(word)
		p = append(p, n)
	}
	if e := Check(p); e != api.OK {
		return nil, e
	}
	return p, api.OK
}

// isNumber reports whether a text is a number of one to three digits without superfluous zeros.
func isNumber(s string) bool {
	const longest = 3
	if s == "" || len(s) > longest || s[0] == '0' && s != "0" {
		return false
	}
	return strings.Trim(s, "0123456789") == ""
}
