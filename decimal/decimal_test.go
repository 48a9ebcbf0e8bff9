package decimal_test

import (
	"math"
	"math/big"
	"math/rand/v2"
	"strings"
	"testing"

	"schisma/api"
	"schisma/decimal"
)

// P1.1

func TestCanonical(t *testing.T) {
	for _, x := range samples() {
		if !decimal.Canonical(x) {
			t.Errorf("%s is canonical", x)
		}
	}
	for _, x := range []api.Int{"", "00", "007", "01", "-1", "-0", "+1", " 1", "1 ", "1_0", "1e3", "0x1", "a", "1/2", "1:", "\x00", "1\x00", "１", "0.0"} {
		if decimal.Canonical(x) {
			t.Errorf("%q is not canonical", x)
		}
		if e := decimal.Check(x); e != api.ErrNumber {
			t.Errorf("Check(%q) = %d", x, e)
		}
	}
}

func TestCheck(t *testing.T) {
	for _, digit := range []string{"1", "9"} {
		longest := api.Int(strings.Repeat(digit, api.MaxDigits))
		if e := decimal.Check(longest); e != api.OK {
			t.Errorf("Check of %d digits = %d", len(longest), e)
		}
		if e := decimal.Check(longest + "0"); e != api.ErrNumber || !decimal.Canonical(longest+"0") {
			t.Errorf("Check of one digit more = %d", e)
		}
	}
	if e := decimal.Check("0"); e != api.OK {
		t.Errorf("Check(0) = %d", e)
	}
	if e := decimal.Check(api.Int(strings.Repeat("0", 2))); e != api.ErrNumber {
		t.Errorf("Check(00) = %d", e)
	}
}

// P1.2

func TestOfAndSmall(t *testing.T) {
	for _, n := range []uint64{0, 1, 9, 10, 999_999_999, 1_000_000_000, math.MaxInt64, math.MaxInt64 + 1, 9_999_999_999_999_999_999, 10_000_000_000_000_000_000, math.MaxUint64 - 1, math.MaxUint64} {
		x := decimal.Of(n)
		if want := new(big.Int).SetUint64(n).String(); string(x) != want {
			t.Errorf("Of(%s) = %s", want, x)
		}
		if m, ok := decimal.Small(x); m != n || !ok {
			t.Errorf("Small(%s) = %d, %t", x, m, ok)
		}
	}
	for _, x := range samples() {
		want := number(t, x)
		n, ok := decimal.Small(x)
		if ok != want.IsUint64() || ok && n != want.Uint64() || !ok && n != 0 {
			t.Errorf("Small(%s) = %d, %t", x, n, ok)
		}
	}
}

// P1.3

func TestCompareAndDigits(t *testing.T) {
	forEachPair(t, func(a, b api.Int, m, n *big.Int) {
		if c := decimal.Compare(a, b); c != m.Cmp(n) {
			t.Errorf("Compare(%s, %s) = %d", a, b, c)
		}
	})
	for _, x := range samples() {
		if d := decimal.Digits(x); d != len(x) {
			t.Errorf("Digits(%s) = %d", x, d)
		}
		if b := decimal.Bits(x); b != number(t, x).BitLen() {
			t.Errorf("Bits(%s) = %d", x, b)
		}
	}
}

func TestBitsAtPowers(t *testing.T) {
	one := big.NewInt(1)
	for k := range 1400 {
		power := new(big.Int).Lsh(one, uint(k))
		if b := decimal.Bits(api.Int(power.String())); b != k+1 {
			t.Errorf("Bits of 2 to the power %d = %d", k, b)
		}
		if b := decimal.Bits(api.Int(power.Sub(power, one).String())); b != k {
			t.Errorf("Bits of 2 to the power %d less 1 = %d", k, b)
		}
	}
}

// P1.4

func TestAddSubMul(t *testing.T) {
	forEachPair(t, func(a, b api.Int, m, n *big.Int) {
		if s := decimal.Add(a, b); string(s) != new(big.Int).Add(m, n).String() {
			t.Errorf("Add(%s, %s) = %s", a, b, s)
		}
		if p := decimal.Mul(a, b); string(p) != new(big.Int).Mul(m, n).String() {
			t.Errorf("Mul(%s, %s) = %s", a, b, p)
		}
		d, e := decimal.Sub(a, b)
		if m.Cmp(n) < 0 {
			if d != "" || e != api.ErrRange {
				t.Errorf("Sub(%s, %s) = %s, %d", a, b, d, e)
			}
		} else if e != api.OK || string(d) != new(big.Int).Sub(m, n).String() {
			t.Errorf("Sub(%s, %s) = %s, %d", a, b, d, e)
		}
	})
}

// P1.5

func TestDivMod(t *testing.T) {
	forEachPair(t, func(a, b api.Int, m, n *big.Int) {
		q, r, e := decimal.DivMod(a, b)
		if b == "0" {
			if q != "" || r != "" || e != api.ErrZero {
				t.Errorf("DivMod(%s, 0) = %s, %s, %d", a, q, r, e)
			}
			return
		}
		quotient, rest := new(big.Int).QuoRem(m, n, new(big.Int))
		if e != api.OK || string(q) != quotient.String() || string(r) != rest.String() {
			t.Errorf("DivMod(%s, %s) = %s, %s, %d", a, b, q, r, e)
		}
	})
}

// Quotients whose pieces are at the edges often make the guess of a piece too great.
func TestDivModOfProducts(t *testing.T) {
	r := rand.New(rand.NewPCG(3, 4))
	for range 20_000 {
		b, q := pieced(r, 1+r.IntN(6)), pieced(r, 1+r.IntN(6))
		rest, _ := decimal.Sub(b, "1")
		if r.IntN(2) == 0 {
			_, rest, _ = decimal.DivMod(pieced(r, 1+r.IntN(6)), b)
		}
		a := decimal.Add(decimal.Mul(b, q), rest)
		if times, left, e := decimal.DivMod(a, b); times != q || left != rest || e != api.OK {
			t.Fatalf("DivMod(%s, %s) = %s, %s, %d", a, b, times, left, e)
		}
	}
}

// P1.6

func TestPower(t *testing.T) {
	for _, a := range []api.Int{"0", "1", "2", "3", "10", "999999999", "1000000000", "18446744073709551616", api.Int(strings.Repeat("9", 400))} {
		for _, n := range []int{0, 1, 2, 3, 4, 5, 7, 8, 13, 31, 48} {
			want := new(big.Int).Exp(number(t, a), big.NewInt(int64(n)), nil).String()
			if p, e := decimal.Power(a, n); string(p) != want || e != api.OK {
				t.Errorf("Power(%s, %d) = %s, %d", a, n, p, e)
			}
		}
	}
}

func TestPowerLimits(t *testing.T) {
	ten := func(digits int) api.Int { return api.Int("1" + strings.Repeat("0", digits-1)) }
	nines := func(digits int) api.Int { return api.Int(strings.Repeat("9", digits)) }
	for i, c := range []struct {
		a      api.Int
		n      int
		digits int // 0 if there are too many
	}{
		{"10", decimal.MaxPower - 1, decimal.MaxPower},
		{"10", decimal.MaxPower, 0},
		{"2", 66438, decimal.MaxPower}, // 2 to the power 66438 has 20000 digits
		{"2", 66439, 0},
		{ten(decimal.MaxPower), 1, decimal.MaxPower},
		{ten(decimal.MaxPower + 1), 1, 0},
		{ten(decimal.MaxPower + 1), 0, 1},
		{nines(decimal.MaxPower / 2), 2, decimal.MaxPower},
		{nines(decimal.MaxPower/2 + 1), 2, 0},
		{ten(decimal.MaxPower/2 + 1), 2, 0},
		{ten(decimal.MaxPower / 2), 2, decimal.MaxPower - 1},
		{"0", math.MaxInt, 1},
		{"1", math.MaxInt, 1},
		{"2", math.MaxInt, 0},
		{nines(api.MaxDigits), math.MaxInt, 0},
	} {
		p, e := decimal.Power(c.a, c.n)
		if len(p) != c.digits || (e == api.OK) != (c.digits > 0) || e != api.OK && e != api.ErrLimit {
			t.Errorf("%d: Power has %d digits, %d", i, len(p), e)
		}
	}
	for _, n := range []int{-1, math.MinInt} {
		for _, a := range []api.Int{"0", "1", ten(decimal.MaxPower + 1)} {
			if p, e := decimal.Power(a, n); p != "" || e != api.ErrRange {
				t.Errorf("Power(.., %d) = %s, %d", n, p, e)
			}
		}
	}
}

// P1.7

func TestGcdAndLcm(t *testing.T) {
	forEachPair(t, func(a, b api.Int, m, n *big.Int) {
		divisor := new(big.Int).GCD(nil, nil, m, n)
		if g := decimal.Gcd(a, b); string(g) != divisor.String() {
			t.Errorf("Gcd(%s, %s) = %s", a, b, g)
		}
		multiple := new(big.Int)
		if m.Sign() != 0 && n.Sign() != 0 {
			multiple.Mul(m, n).Quo(multiple, divisor)
		}
		if l := decimal.Lcm(a, b); string(l) != multiple.String() {
			t.Errorf("Lcm(%s, %s) = %s", a, b, l)
		}
	})
}

func TestGcdOfMultiples(t *testing.T) {
	r := rand.New(rand.NewPCG(5, 6))
	for range 1000 {
		common := pieced(r, 1+r.IntN(4))
		a, b := decimal.Mul(common, pieced(r, 1+r.IntN(4))), decimal.Mul(common, pieced(r, 1+r.IntN(4)))
		want := new(big.Int).GCD(nil, nil, number(t, a), number(t, b)).String()
		if g := decimal.Gcd(a, b); string(g) != want {
			t.Fatalf("Gcd(%s, %s) = %s", a, b, g)
		}
	}
}

// P1.8

func TestConsequences(t *testing.T) {
	r := rand.New(rand.NewPCG(7, 8))
	for range 500 {
		a, b, c := pieced(r, 1+r.IntN(6)), pieced(r, 1+r.IntN(6)), pieced(r, 1+r.IntN(6))
		sum, product := decimal.Add(a, b), decimal.Mul(a, b)
		left, _ := decimal.Sub(sum, b)
		q, rest, _ := decimal.DivMod(a, b)
		if sum != decimal.Add(b, a) || product != decimal.Mul(b, a) {
			t.Errorf("%s and %s cannot be exchanged", a, b)
		}
		if decimal.Add(sum, c) != decimal.Add(a, decimal.Add(b, c)) || decimal.Mul(product, c) != decimal.Mul(a, decimal.Mul(b, c)) {
			t.Errorf("%s, %s and %s cannot be grouped", a, b, c)
		}
		if decimal.Mul(sum, c) != decimal.Add(decimal.Mul(a, c), decimal.Mul(b, c)) {
			t.Errorf("%s, %s and %s cannot be distributed", a, b, c)
		}
		if left != a || decimal.Add(decimal.Mul(q, b), rest) != a || decimal.Compare(rest, b) >= 0 {
			t.Errorf("%s and %s: %s, %s, %s", a, b, left, q, rest)
		}
		if decimal.Mul(decimal.Gcd(a, b), decimal.Lcm(a, b)) != product {
			t.Errorf("Gcd times Lcm of %s and %s", a, b)
		}
		m, n := r.IntN(20), r.IntN(20)
		p, _ := decimal.Power(a, m)
		s, _ := decimal.Power(a, n)
		if both, _ := decimal.Power(a, m+n); decimal.Mul(p, s) != both {
			t.Errorf("powers %d and %d of %s", m, n, a)
		}
		k := decimal.Bits(a)
		above, _ := decimal.Power("2", k)
		below, _ := decimal.Power("2", k-1)
		if decimal.Compare(a, above) >= 0 || decimal.Compare(a, below) < 0 {
			t.Errorf("Bits(%s) = %d", a, k)
		}
	}
}

// P1

func TestAllArguments(t *testing.T) {
	long := strings.Repeat("9", 500)
	odd := []api.Int{"", "0", "7", "00", "000000000", "0000000000000000000", "-", "-1", "--1", "+1", "x", "１", "\xff\xff", "1/2", " ", api.Int(long), api.Int("0" + long), api.Int("-" + long), api.Int(long + "x"), api.Int("x" + long), api.Int(strings.Repeat("\xff", 100)), api.Int(strings.Repeat("/", 19)), api.Int(strings.Repeat("0", 600))}
	for _, a := range odd {
		decimal.Canonical(a)
		decimal.Check(a)
		decimal.Small(a)
		decimal.Digits(a)
		decimal.Bits(a)
		for _, n := range []int{math.MinInt, -1, 0, 1, 2, 3, math.MaxInt} {
			if p, e := decimal.Power(a, n); e != api.OK && p != "" {
				t.Errorf("Power(%q, %d) = %q, %d", a, n, p, e)
			}
		}
		for _, b := range odd {
			decimal.Compare(a, b)
			decimal.Add(a, b)
			decimal.Mul(a, b)
			decimal.Gcd(a, b)
			decimal.Lcm(a, b)
			if d, e := decimal.Sub(a, b); e != api.OK && d != "" {
				t.Errorf("Sub(%q, %q) = %q, %d", a, b, d, e)
			}
			if q, r, e := decimal.DivMod(a, b); e != api.OK && (q != "" || r != "") {
				t.Errorf("DivMod(%q, %q) = %q, %q, %d", a, b, q, r, e)
			}
		}
	}
}
