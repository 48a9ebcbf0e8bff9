package fraction

import (
	"strings"

	"schisma/api"
	"schisma/whole"
)

// Text returns the text of a fraction.
func Text(x api.Rational) string {
	var b strings.Builder
	b.WriteString(string(x.Num))
	if x.Den != "1" {
		b.WriteByte('/')
		b.WriteString(string(x.Den))
	}
	return b.String()
}

// Parse returns the fraction of a text.
func Parse(s string) (api.Rational, api.Errno) {
	if len(s) > api.MaxDigits {
		return api.Rational{}, api.ErrLong
	}
	if before, behind, point := strings.Cut(s, "."); point {
		return parseDecimals(before, behind)
	}
	before, behind, slash := strings.Cut(s, "/")
	if !slash {
		behind = "1"
	}
	if !areDigits(strings.TrimPrefix(before, "-")) || !areDigits(behind) {
		return api.Rational{}, api.ErrSyntax
	}
	num, _ := whole.Parse(before)
	den, _ := whole.Parse(behind)
	return New(num, den)
}

// parseDecimals returns the decimal fraction of what stands before and behind a point.
func parseDecimals(before, behind string) (api.Rational, api.Errno) {
	if !areDigits(strings.TrimPrefix(before, "-")) || !areDigits(behind) {
		return api.Rational{}, api.ErrSyntax
	}
	num, _ := whole.Parse(before + behind)
	den, _ := whole.Parse("1" + strings.Repeat("0", len(behind)))
	return New(num, den)
}

// areDigits reports whether a text consists of digits, and at least one.
func areDigits(s string) bool {
	for i := range len(s) {
		if s[i] < '0' || s[i] > '9' {
			return false
		}
	}
	return s != ""
}
