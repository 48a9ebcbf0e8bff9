package whole_test

import (
	"math/big"
	"math/rand/v2"
	"strings"
	"testing"

	"schisma/api"
)

// samples returns integers of both signs, among them those at the edges of 18 digits, of int and of 64 bits, right ones up to the longest, and results that are longer.
func samples() []api.Int {
	magnitudes := []string{
		"1", "2", "3", "7", "9", "10", "12", "18", "100", "999999999", "1000000000", "3037000499", "3037000500",
		"999999999999999999", "1000000000000000000", "1000000000000000001",
		"9223372036854775806", "9223372036854775807", "9223372036854775808", "9223372036854775809",
		"9999999999999999999", "18446744073709551615", "18446744073709551616",
		"340282366920938463463374607431768211456",
		strings.Repeat("9", 36), "1" + strings.Repeat("0", 36),
		strings.Repeat("9", api.MaxDigits), "1" + strings.Repeat("0", api.MaxDigits-1),
		strings.Repeat("9", 2*api.MaxDigits),
	}
	r := rand.New(rand.NewPCG(1, 2))
	for _, n := range []int{5, 17, 20, 30, 60} {
		magnitudes = append(magnitudes, randomDigits(r, n))
	}
	l := []api.Int{"0"}
	for _, m := range magnitudes {
		l = append(l, api.Int(m), api.Int("-"+m))
	}
	return l
}

// randomDigits returns so many digits, the first of which is not 0.
func randomDigits(r *rand.Rand, n int) string {
	digits := []byte{byte('1' + r.IntN(9))}
	for range n - 1 {
		digits = append(digits, byte('0'+r.IntN(10)))
	}
	return string(digits)
}

// random returns an integer of up to so many digits.
func random(r *rand.Rand, most int) api.Int {
	return api.Int([]string{"", "-"}[r.IntN(2)] + randomDigits(r, 1+r.IntN(most)))
}

// number returns what an integer is in the standard library.
func number(t *testing.T, a api.Int) *big.Int {
	t.Helper()
	n, ok := new(big.Int).SetString(string(a), 10)
	if !ok || n.String() != string(a) {
		t.Fatalf("%q is not canonical", a)
	}
	return n
}

// forEachPair calls a function with all pairs of samples, and with what they are in the standard library.
func forEachPair(t *testing.T, f func(a, b api.Int, m, n *big.Int)) {
	t.Helper()
	for _, a := range samples() {
		for _, b := range samples() {
			f(a, b, number(t, a), number(t, b))
		}
	}
}
