package whole_test

import (
	"math"
	"math/big"
	"math/rand/v2"
	"strconv"
	"strings"
	"testing"

	"schisma/api"
	"schisma/whole"
)

// P2.1

func TestCheck(t *testing.T) {
	longest := api.Int(strings.Repeat("9", api.MaxDigits))
	for _, a := range []api.Int{"0", "1", "-1", "10", "-907", longest, "-" + longest} {
		if e := whole.Check(a); e != api.OK {
			t.Errorf("Check(%s) = %d", a, e)
		}
	}
	for _, a := range []api.Int{"", "-", "-0", "00", "01", "-01", "--1", "+1", " 1", "1 ", "1-", "1e3", "1.0", "x", "１", longest + "0", "-" + longest + "0"} {
		if e := whole.Check(a); e != api.ErrNumber {
			t.Errorf("Check(%q) = %d", a, e)
		}
	}
}

func TestOfAndSmall(t *testing.T) {
	for _, n := range []int{0, 1, -1, 9, -10, 999_999_999_999_999_999, 1_000_000_000_000_000_000, -1_000_000_000_000_000_000, math.MaxInt - 1, math.MaxInt, math.MinInt + 1, math.MinInt} {
		a := whole.Of(n)
		if string(a) != strconv.Itoa(n) {
			t.Errorf("Of(%d) = %s", n, a)
		}
		if m, is := whole.Small(a); m != n || !is {
			t.Errorf("Small(%s) = %d, %t", a, m, is)
		}
	}
	for _, a := range samples() {
		want := number(t, a)
		n, is := whole.Small(a)
		if is != want.IsInt64() || is && int64(n) != want.Int64() || !is && n != 0 {
			t.Errorf("Small(%s) = %d, %t", a, n, is)
		}
	}
}

// P2.2

func TestParse(t *testing.T) {
	nines := strings.Repeat("9", api.MaxDigits)
	for _, c := range []struct {
		s    string
		want api.Int
		e    api.Errno
	}{
		{"0", "0", api.OK},
		{"-0", "0", api.OK},
		{"-000", "0", api.OK},
		{"000", "0", api.OK},
		{"-007", "-7", api.OK},
		{"0010", "10", api.OK},
		{nines, api.Int(nines), api.OK},
		{"-" + nines, "-" + api.Int(nines), api.OK},
		{"-" + strings.Repeat("0", 1000) + nines, "-" + api.Int(nines), api.OK},
		{strings.Repeat("0", 1000), "0", api.OK},
		{"", "", api.ErrEmpty},
		{"-", "", api.ErrSyntax},
		{"--1", "", api.ErrSyntax},
		{"+1", "", api.ErrSyntax},
		{"1e3", "", api.ErrSyntax},
		{"1_0", "", api.ErrSyntax},
		{" 1", "", api.ErrSyntax},
		{"1 ", "", api.ErrSyntax},
		{"1-", "", api.ErrSyntax},
		{"1/2", "", api.ErrSyntax},
		{"1:", "", api.ErrSyntax},
		{"１", "", api.ErrSyntax},
		{nines + nines + "x", "", api.ErrSyntax},
		{nines + "0", "", api.ErrLimit},
		{"-" + nines + "0", "", api.ErrLimit},
		{"-0" + nines + "0", "", api.ErrLimit},
	} {
		if a, e := whole.Parse(c.s); a != c.want || e != c.e {
			t.Errorf("Parse(%q) = %s, %d", c.s, a, e)
		}
	}
}

// P2.3

func TestSignAndCompare(t *testing.T) {
	forEachPair(t, func(a, b api.Int, m, n *big.Int) {
		if c := whole.Compare(a, b); c != m.Cmp(n) {
			t.Errorf("Compare(%s, %s) = %d", a, b, c)
		}
	})
	for _, a := range samples() {
		n := number(t, a)
		if s := whole.Sign(a); s != n.Sign() {
			t.Errorf("Sign(%s) = %d", a, s)
		}
		if b := whole.Neg(a); string(b) != new(big.Int).Neg(n).String() {
			t.Errorf("Neg(%s) = %s", a, b)
		}
		if b := whole.Abs(a); string(b) != new(big.Int).Abs(n).String() {
			t.Errorf("Abs(%s) = %s", a, b)
		}
	}
}

// P2.4

func TestAddSubMul(t *testing.T) {
	forEachPair(t, func(a, b api.Int, m, n *big.Int) {
		if s := whole.Add(a, b); string(s) != new(big.Int).Add(m, n).String() {
			t.Errorf("Add(%s, %s) = %s", a, b, s)
		}
		if d := whole.Sub(a, b); string(d) != new(big.Int).Sub(m, n).String() {
			t.Errorf("Sub(%s, %s) = %s", a, b, d)
		}
		if p := whole.Mul(a, b); string(p) != new(big.Int).Mul(m, n).String() {
			t.Errorf("Mul(%s, %s) = %s", a, b, p)
		}
	})
}

func TestSum(t *testing.T) {
	if s := whole.Sum(); s != "0" {
		t.Errorf("Sum() = %s", s)
	}
	most := api.Int(strings.Repeat("9", 18))
	lists := [][]api.Int{samples(), {"5"}, {"-5", "5"}, {most, most, most, most, most, most, most, most, most, most, most}, {"-" + most, "-" + most, "-" + most, most}}
	r := rand.New(rand.NewPCG(3, 4))
	for range 200 {
		var l []api.Int
		for range r.IntN(40) {
			l = append(l, random(r, 22))
		}
		lists = append(lists, l)
	}
	for _, l := range lists {
		want := new(big.Int)
		for _, a := range l {
			want.Add(want, number(t, a))
		}
		if s := whole.Sum(l...); string(s) != want.String() {
			t.Errorf("Sum(%v) = %s", l, s)
		}
	}
}

func TestPower(t *testing.T) {
	for _, a := range []api.Int{"0", "1", "-1", "2", "-2", "10", "-999999999999999999", "18446744073709551616", api.Int("-" + strings.Repeat("9", api.MaxDigits))} {
		for _, n := range []int{0, 1, 2, 3, 4, 9, 10} {
			want := new(big.Int).Exp(number(t, a), big.NewInt(int64(n)), nil).String()
			if p, e := whole.Power(a, n); string(p) != want || e != api.OK {
				t.Errorf("Power(%s, %d) = %s, %d", a, n, p, e)
			}
		}
	}
}

func TestPowerLimits(t *testing.T) {
	longest := api.Int(strings.Repeat("9", api.MaxDigits))
	for _, c := range []struct {
		a        api.Int
		exponent int
		digits   int // of the power without its sign
		e        api.Errno
	}{
		{"0", 4000, 1, api.OK},
		{"0", 4001, 0, api.ErrLimit},
		{"1", 4000, 1, api.OK},
		{"-1", 4001, 0, api.ErrLimit},
		{"-9", 4000, 3817, api.OK},
		{"22", 2000, 2685, api.OK},
		{"22", 2001, 0, api.ErrLimit},
		{"-22", 2000, 2685, api.OK}, // the sign is no digit
		{"999", 1333, 3999, api.OK},
		{"999", 1334, 0, api.ErrLimit},
		{longest, 10, 4000, api.OK},
		{longest, 11, 0, api.ErrLimit},
		{"-" + longest, 10, 4000, api.OK},
		{"-" + longest, 11, 0, api.ErrLimit},
		{"1", math.MaxInt, 0, api.ErrLimit},
		{longest, math.MaxInt, 0, api.ErrLimit},
		{"0", -1, 0, api.ErrRange},
		{longest, -1, 0, api.ErrRange},
		{"2", math.MinInt, 0, api.ErrRange},
	} {
		p, e := whole.Power(c.a, c.exponent)
		if len(strings.TrimPrefix(string(p), "-")) != c.digits || e != c.e {
			t.Errorf("Power(%s, %d) has %d bytes, %d", c.a, c.exponent, len(p), e)
		}
	}
}

// P2.5

func TestDivMod(t *testing.T) {
	for _, c := range []struct{ a, b, quotient, remainder api.Int }{
		{"-7", "2", "-4", "1"}, {"7", "-2", "-4", "-1"}, {"-7", "-2", "3", "-1"}, {"7", "2", "3", "1"}, {"-6", "2", "-3", "0"}, {"-6", "-2", "3", "0"},
	} {
		if q, r, e := whole.DivMod(c.a, c.b); q != c.quotient || r != c.remainder || e != api.OK {
			t.Errorf("DivMod(%s, %s) = %s, %s, %d", c.a, c.b, q, r, e)
		}
	}
	forEachPair(t, func(a, b api.Int, m, n *big.Int) {
		q, r, e := whole.DivMod(a, b)
		if b == "0" {
			if q != "" || r != "" || e != api.ErrZero {
				t.Errorf("DivMod(%s, 0) = %s, %s, %d", a, q, r, e)
			}
			return
		}
		quotient, remainder := downward(m, n)
		if e != api.OK || string(q) != quotient.String() || string(r) != remainder.String() {
			t.Errorf("DivMod(%s, %s) = %s, %s, %d", a, b, q, r, e)
		}
	})
}

// downward divides as the document says, by a division that cuts off what is behind the point.
func downward(m, n *big.Int) (quotient, remainder *big.Int) {
	quotient, remainder = new(big.Int).QuoRem(m, n, new(big.Int))
	if remainder.Sign()*n.Sign() < 0 {
		quotient.Sub(quotient, big.NewInt(1))
		remainder.Add(remainder, n)
	}
	return quotient, remainder
}

// P2.6

func TestGcdAndLcm(t *testing.T) {
	forEachPair(t, func(a, b api.Int, m, n *big.Int) {
		m, n = new(big.Int).Abs(m), new(big.Int).Abs(n)
		divisor := new(big.Int).GCD(nil, nil, m, n)
		if g := whole.Gcd(a, b); string(g) != divisor.String() {
			t.Errorf("Gcd(%s, %s) = %s", a, b, g)
		}
		multiple := new(big.Int)
		if m.Sign() != 0 && n.Sign() != 0 {
			multiple.Mul(m, n).Quo(multiple, divisor)
		}
		if l := whole.Lcm(a, b); string(l) != multiple.String() {
			t.Errorf("Lcm(%s, %s) = %s", a, b, l)
		}
	})
}

func TestBezout(t *testing.T) {
	for _, c := range []struct{ a, b, g, x, y api.Int }{
		{"-12", "18", "6", "1", "1"}, {"0", "0", "0", "0", "0"}, {"4", "0", "4", "1", "0"}, {"-4", "0", "4", "-1", "0"}, {"0", "5", "5", "0", "1"}, {"0", "-5", "5", "0", "-1"}, {"3", "7", "1", "5", "-2"}, {"5", "1", "1", "0", "1"}, {"6", "-6", "6", "0", "-1"},
	} {
		if g, x, y := whole.Bezout(c.a, c.b); g != c.g || x != c.x || y != c.y {
			t.Errorf("Bezout(%s, %s) = %s, %s, %s", c.a, c.b, g, x, y)
		}
	}
	forEachPair(t, func(a, b api.Int, m, n *big.Int) {
		if b != "0" {
			checkBezout(t, a, b, m, n)
		}
	})
	r := rand.New(rand.NewPCG(5, 6))
	for range 300 {
		common := random(r, 20)
		a, b := whole.Mul(common, random(r, 40)), whole.Mul(common, random(r, 40))
		checkBezout(t, a, b, number(t, a), number(t, b))
	}
}

// checkBezout checks the Bezout numbers by what they have to satisfy; b is not 0.
func checkBezout(t *testing.T, a, b api.Int, m, n *big.Int) {
	t.Helper()
	g, x, y := whole.Bezout(a, b)
	divisor := new(big.Int).GCD(nil, nil, new(big.Int).Abs(m), new(big.Int).Abs(n))
	first, second := number(t, x), number(t, y)
	sum := new(big.Int).Add(new(big.Int).Mul(m, first), new(big.Int).Mul(n, second))
	below := new(big.Int).Quo(new(big.Int).Abs(n), divisor)
	if string(g) != divisor.String() || sum.Cmp(divisor) != 0 || first.Sign() < 0 || first.Cmp(below) >= 0 {
		t.Errorf("Bezout(%s, %s) = %s, %s, %s", a, b, g, x, y)
	}
}

// P2.7

func TestConsequences(t *testing.T) {
	r := rand.New(rand.NewPCG(7, 8))
	for i := range 1000 {
		most := []int{3, 10, 25, api.MaxDigits}[i%4]
		a, b, c := random(r, most), random(r, most), random(r, most)
		sum, product := whole.Add(a, b), whole.Mul(a, b)
		if sum != whole.Add(b, a) || product != whole.Mul(b, a) || whole.Sum(a, b, c) != whole.Sum(c, b, a) || whole.Mul(product, c) != whole.Mul(a, whole.Mul(b, c)) {
			t.Errorf("the order of %s, %s and %s matters", a, b, c)
		}
		if whole.Mul(sum, c) != whole.Add(whole.Mul(a, c), whole.Mul(b, c)) {
			t.Errorf("%s, %s and %s cannot be distributed", a, b, c)
		}
		if whole.Sub(sum, b) != a {
			t.Errorf("%s cannot be subtracted again from %s", b, sum)
		}
		q, rest, _ := whole.DivMod(a, b)
		if whole.Add(whole.Mul(b, q), rest) != a || rest != "0" && whole.Sign(rest) != whole.Sign(b) || whole.Compare(whole.Abs(rest), whole.Abs(b)) >= 0 {
			t.Errorf("DivMod(%s, %s) = %s, %s", a, b, q, rest)
		}
		if whole.Mul(whole.Gcd(a, b), whole.Lcm(a, b)) != whole.Abs(product) {
			t.Errorf("Gcd times Lcm of %s and %s", a, b)
		}
		if whole.Compare(a, b) != whole.Compare(whole.Add(a, c), whole.Add(b, c)) {
			t.Errorf("adding %s changes the order of %s and %s", c, a, b)
		}
		if p, e := whole.Parse(string(a)); p != a || e != api.OK {
			t.Errorf("Parse(%s) = %s, %d", a, p, e)
		}
	}
}

// P1

func TestAllArguments(t *testing.T) {
	long := strings.Repeat("9", 500)
	odd := []api.Int{"", "0", "7", "-7", "00", "-0", "-00", "-", "--", "--1", "+1", "x", "-x", "１", "\xff\xff", "1/2", " ", api.Int(long), api.Int("-" + long), api.Int("0" + long), api.Int("--" + long), api.Int(long + "x"), api.Int("x" + long), api.Int(strings.Repeat("\xff", 100)), api.Int(strings.Repeat("-", 100))}
	for _, a := range odd {
		whole.Check(a)
		whole.Small(a)
		whole.Sign(a)
		whole.Neg(a)
		whole.Abs(a)
		whole.Sum(a)
		if p, e := whole.Parse(string(a)); e != api.OK && p != "" {
			t.Errorf("Parse(%q) = %q, %d", a, p, e)
		}
		for _, n := range []int{math.MinInt, -1, 0, 1, 2, 3, math.MaxInt} {
			if p, e := whole.Power(a, n); e != api.OK && p != "" {
				t.Errorf("Power(%q, %d) = %q, %d", a, n, p, e)
			}
		}
		for _, b := range odd {
			whole.Compare(a, b)
			whole.Add(a, b)
			whole.Sub(a, b)
			whole.Mul(a, b)
			whole.Sum(a, b, a)
			whole.Gcd(a, b)
			whole.Lcm(a, b)
			whole.Bezout(a, b)
			if q, r, e := whole.DivMod(a, b); e != api.OK && (q != "" || r != "") {
				t.Errorf("DivMod(%q, %q) = %q, %q, %d", a, b, q, r, e)
			}
		}
	}
}
