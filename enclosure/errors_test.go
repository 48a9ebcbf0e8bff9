package enclosure_test

import (
	"fmt"
	"testing"

	"schisma/api"
	"schisma/enclosure"
)

// answer is what a function returned.
type answer struct {
	e      api.Errno
	isZero bool // whether all other results are zero values
}

// withOne returns what each function of one size answers, with other arguments that are not right either.
func withOne(p api.Primes, s api.Size) map[string]answer {
	low, high, e := enclosure.Enclose(p, s, -1)
	proof, f := enclosure.Decide(p, s)
	text, g := enclosure.Cents(p, s, -1)
	bits, h := enclosure.Narrow(p, s, -1)
	return map[string]answer{
		"Enclose": {e, low == (api.Rational{}) && high == (api.Rational{})},
		"Decide":  {f, areEqual(proof, api.Comparison{})},
		"Verify":  {enclosure.Verify(p, s, api.Comparison{Sign: 7}), true},
		"Cents":   {g, text == ""},
		"Narrow":  {h, bits == 0},
	}
}

// order returns what Order answers.
func order(p api.Primes, a, b api.Size) answer {
	proof, e := enclosure.Order(p, a, b)
	return answer{e, areEqual(proof, api.Comparison{})}
}

// P1: the error of the list comes first, then those of sizes in order, and nothing else comes with them.
func TestErrors(t *testing.T) {
	expect := func(p api.Primes, what string, got answer, want api.Errno) {
		t.Helper()
		if got.e != want || !got.isZero {
			t.Errorf("%s over %v: %d (other results are zero: %t), not %d", what, p, got.e, got.isZero, want)
		}
	}
	right, two := integral("1", "-2"), api.Primes{2, 3}
	all := append(wrongSizes(), wrongSize{right, api.OK}, wrongSize{integral("0", "0"), api.OK})
	for _, list := range wrongLists() {
		for _, c := range all {
			for name, got := range withOne(list.p, c.s) {
				expect(list.p, name, got, list.e)
			}
			expect(list.p, "Order", order(list.p, c.s, right), list.e)
		}
	}
	for _, c := range wrongSizes() {
		for name, got := range withOne(two, c.s) {
			expect(two, name, got, c.e)
		}
		for _, d := range all {
			expect(two, "Order", order(two, c.s, d.s), c.e)
		}
		expect(two, "Order", order(two, right, c.s), c.e)
	}
}

// Arguments are as before.
func TestArgumentsAreKept(t *testing.T) {
	p, a, b := api.Primes{2, 3, 5}, integral("3", "-1", "0"), integral("0", "1", "0")
	proof, _ := enclosure.Decide(p, a)
	before := fmt.Sprint(p, a, b, proof)
	withOne(p, a)
	order(p, a, b)
	enclosure.Enclose(p, a, 10)
	enclosure.Cents(p, a, 3)
	enclosure.Verify(p, a, proof)
	enclosure.Verify(p, b, proof)
	if after := fmt.Sprint(p, a, b, proof); after != before {
		t.Errorf("the arguments are %s, not %s", after, before)
	}
}
