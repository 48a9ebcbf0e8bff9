package decimal_test

import (
	"math/big"
	"math/rand/v2"
	"strings"
	"testing"

	"schisma/api"
)

// samples returns numbers of all lengths that are treated differently, among them those at the edges of pieces and of 64 bits.
func samples() []api.Int {
	l := []api.Int{
		"0", "1", "2", "3", "7", "9", "10", "12", "18", "99", "100", "255", "256",
		"999999999", "1000000000", "1000000001", "4294967295", "4294967296",
		"999999999999999999", "1000000000000000000", "1000000000000000001",
		"9223372036854775807", "9223372036854775808",
		"9999999999999999999", "10000000000000000000",
		"18446744073709551614", "18446744073709551615", "18446744073709551616", "18446744073709551617",
		"99999999999999999999", "340282366920938463463374607431768211456",
	}
	for _, n := range []int{27, 28, 36, 37, 54, api.MaxDigits, api.MaxDigits + 1, 900} {
		l = append(l,
			api.Int(strings.Repeat("9", n)),
			api.Int("1"+strings.Repeat("0", n-1)),
			api.Int("1"+strings.Repeat("0", n-2)+"1"))
	}
	r := rand.New(rand.NewPCG(1, 2))
	for _, n := range []int{1, 2, 3, 4, 5, 8, 20, 45} {
		l = append(l, pieced(r, n), pieced(r, n), pieced(r, n))
	}
	return l
}

// pieced returns a number of some pieces of nine digits, which are often the least or the greatest ones: so guesses in a division are often too great.
func pieced(r *rand.Rand, n int) api.Int {
	edges := []string{"000000000", "000000001", "499999999", "500000000", "999999998", "999999999"}
	var b strings.Builder
	b.WriteString([]string{"1", "9", "500000000", "999999999"}[r.IntN(4)])
	for range n - 1 {
		if r.IntN(3) > 0 {
			b.WriteString(edges[r.IntN(len(edges))])
			continue
		}
		for range 9 {
			b.WriteByte(byte('0' + r.IntN(10)))
		}
	}
	return api.Int(b.String())
}

// number returns what a number is in the standard library.
func number(t *testing.T, x api.Int) *big.Int {
	t.Helper()
	n, ok := new(big.Int).SetString(string(x), 10)
	if !ok || n.String() != string(x) {
		t.Fatalf("%q is not canonical", x)
	}
	return n
}

// forEachPair calls a function with all pairs of samples, and with what they are in the standard library.
func forEachPair(t *testing.T, f func(a, b api.Int, m, n *big.Int)) {
	t.Helper()
	for _, a := range samples() {
		for _, b := range samples() {
			f(a, b, number(t, a), number(t, b))
		}
	}
}
