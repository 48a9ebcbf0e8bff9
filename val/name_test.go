package val_test

import (
	"math"
	"math/rand/v2"
	"slices"
	"strconv"
	"strings"
	"testing"

	"schisma/api"
	"schisma/val"
)

// P17.5, P17.6

// Letters count the nearest integers of the place of their prime.
func TestNames(t *testing.T) {
	for _, p := range lists() {
		for _, steps := range numbers() {
			patent, _ := val.Patent(p, steps)
			for i := 1; i < len(p); i++ {
				for number, n := range around(t, p, steps, i) {
					v, counts := changed(patent, i, n), make([]int, len(p)-1)
					counts[i-1] = number
					name := strconv.Itoa(steps) + warts(counts...)
					got, e := val.Name(p, v)
					back, f := val.Parse(p, name)
					if number > val.MaxWarts {
						if e != api.ErrLimit || got != "" || f != api.ErrLimit || back != nil {
							t.Errorf("over %v %v has the name %q, %d, and %q is %v, %d", p, v, got, e, name, back, f)
						}
						continue
					}
					if e != api.OK || got != name || f != api.OK || !slices.Equal(back, v) {
						t.Errorf("over %v %v has the name %q, %d, and %q is %v, %d", p, v, got, e, name, back, f)
					}
				}
			}
		}
	}
}

// Several primes have letters of their own.
func TestNamesWithSeveralLetters(t *testing.T) {
	p := api.Primes{2, 3, 5, 7, 11, 13}
	const steps = 31
	for a := range 22 {
		counts := []int{a, (a * 5) % 21, (a * 8) % 21, (a * 13) % 21, (20 + a*17) % 21}
		v := api.Row{steps}
		for i, n := range counts {
			v = append(v, around(t, p, steps, i+1)[n])
		}
		name := strconv.Itoa(steps) + warts(counts...)
		got, e := val.Name(p, v)
		back, f := val.Parse(p, name)
		if a > val.MaxWarts {
			if e != api.ErrLimit || f != api.ErrLimit || got != "" || back != nil {
				t.Errorf("%v has the name %q, %d, and %q is %v, %d", v, got, e, name, back, f)
			}
		} else if e != api.OK || got != name || f != api.OK || !slices.Equal(back, v) {
			t.Errorf("%v has the name %q, %d, and %q is %v, %d", v, got, e, name, back, f)
		}
	}
}

// All uniform vals have names that can be read.
func TestNamesOfUniformVals(t *testing.T) {
	for _, p := range lists() {
		l, e := val.Between(p, 1, 30)
		if e != api.OK {
			t.Fatalf("Between(%v): %d", p, e)
		}
		for _, v := range l {
			name, e := val.Name(p, v)
			if back, f := val.Parse(p, name); e != api.OK || f != api.OK || !slices.Equal(back, v) {
				t.Errorf("over %v %v has the name %q, %d, which is %v, %d", p, v, name, e, back, f)
			}
		}
	}
}

func TestErrorsOfName(t *testing.T) {
	p := api.Primes{2, 3, 5}
	for _, c := range []struct {
		v api.Row
		e api.Errno
	}{
		{api.Row{0, 0, 0}, api.ErrRange}, {api.Row{-12, -19, -28}, api.ErrRange}, {api.Row{val.MaxSteps + 1, 0, 0}, api.ErrRange}, {api.Row{most, most, most}, api.ErrRange}, {api.Row{-most, 0, 0}, api.ErrRange},
		{api.Row{12, 0, 28}, api.ErrLimit}, {api.Row{12, 19, most}, api.ErrLimit}, {api.Row{12, -most, -most}, api.ErrLimit}, {api.Row{1, most, 2}, api.ErrLimit}, {api.Row{12, 19, 18}, api.OK}, {api.Row{12, 19, 17}, api.ErrLimit}, {api.Row{12, 19, 38}, api.OK}, {api.Row{12, 19, 39}, api.ErrLimit},
	} {
		if name, e := val.Name(p, c.v); e != c.e || (e == api.OK) == (name == "") {
			t.Errorf("Name(%v) = %q, %d, not %d", c.v, name, e, c.e)
		}
	}
}

// The first error counts: that of the text, that of the number, and that of the letters.
func TestErrorsOfParse(t *testing.T) {
	one, two, three, six := api.Primes{2}, api.Primes{3, 5}, api.Primes{2, 3, 5}, api.Primes{2, 3, 5, 7, 11, 13}
	many := strings.Repeat("b", val.MaxWarts+1)
	for _, c := range []struct {
		p api.Primes
		s string
		e api.Errno
	}{
		{three, "", api.ErrSyntax}, {three, "0", api.ErrSyntax}, {three, "00", api.ErrSyntax}, {three, "012", api.ErrSyntax}, {three, "0b", api.ErrSyntax}, {three, "b", api.ErrSyntax}, {three, "bc", api.ErrSyntax}, {three, "b12", api.ErrSyntax}, {three, "12b1", api.ErrSyntax}, {three, "-12", api.ErrSyntax}, {three, "+12", api.ErrSyntax},
		{three, " 12", api.ErrSyntax}, {three, "12 ", api.ErrSyntax}, {three, "12 b", api.ErrSyntax}, {three, "12\n", api.ErrSyntax}, {three, "12\x00", api.ErrSyntax}, {three, "12a", api.ErrSyntax}, {three, "12d", api.ErrSyntax}, {three, "12B", api.ErrSyntax}, {three, "12cb", api.ErrSyntax}, {three, "12bcb", api.ErrSyntax}, {three, "12ba", api.ErrSyntax},
		{three, "1_2", api.ErrSyntax}, {three, "1.2", api.ErrSyntax}, {three, "12é", api.ErrSyntax}, {three, "\u0661", api.ErrSyntax}, {three, "12\xff", api.ErrSyntax}, {three, "12b\xff", api.ErrSyntax}, {three, "0x1", api.ErrSyntax},
		{one, "12b", api.ErrSyntax}, {one, "12a", api.ErrSyntax}, {two, "12c", api.ErrSyntax}, {two, "12bb", api.OK}, {six, "12bcdef", api.OK}, {six, "12g", api.ErrSyntax}, {six, "12fg", api.ErrSyntax}, {six, "12bdf", api.OK}, {six, "12bfd", api.ErrSyntax},
		{three, "100000", api.OK}, {three, "100001", api.ErrRange}, {three, "100001b", api.ErrRange}, {three, "100001" + many, api.ErrRange}, {three, "100001d", api.ErrSyntax}, {three, strings.Repeat("9", 18), api.ErrRange}, {three, "9223372036854775808", api.ErrRange}, {three, "18446744073709551628", api.ErrRange}, {three, strings.Repeat("9", 1000), api.ErrRange}, {three, strings.Repeat("9", 1000) + "cb", api.ErrSyntax},
		{three, "12" + many, api.ErrLimit}, {three, "12" + many[1:], api.OK}, {three, "12" + many + "c", api.ErrLimit}, {three, "12" + many + "a", api.ErrSyntax}, {three, "12b" + strings.Repeat("c", 21), api.ErrLimit}, {three, "12" + many[1:] + strings.Repeat("c", 20), api.OK}, {three, "12" + strings.Repeat("c", 100_000), api.ErrLimit},
		{one, "1", api.OK}, {one, "100000", api.OK},
	} {
		v, e := val.Parse(c.p, c.s)
		if e != c.e || (e == api.OK) != (len(v) == len(c.p)) || e != api.OK && v != nil {
			t.Errorf("Parse(%v, %.40q) = %v, %d, not %d", c.p, c.s, v, e, c.e)
		}
	}
}

// P1: the errors that functions have in common, in their order.

// answer is what a function returned.
type answer struct {
	e      api.Errno
	isZero bool // whether all other results are zero values
}

// withPrimes returns what each function of a list of primes answers; it has no index, and no steps.
func withPrimes(p api.Primes) map[string]answer {
	nearest, a := val.Nearest(p, 0, -1)
	patent, b := val.Patent(p, 0)
	l, c := val.Between(p, 0, math.MaxInt)
	v, d := val.Parse(p, "")
	return map[string]answer{"Nearest": {a, nearest == 0}, "Patent": {b, patent == nil}, "Between": {c, l == nil}, "Parse": {d, v == nil}}
}

// withVal returns what each function of a val answers.
func withVal(p api.Primes, v, interval api.Row) map[string]answer {
	n, a := val.Steps(p, v, interval)
	tempered, b := val.Tempered(p, v, interval)
	uniform, c := val.Uniform(p, v)
	name, d := val.Name(p, v)
	return map[string]answer{"Check": {val.Check(p, v), true}, "Steps": {a, n == 0}, "Tempered": {b, !tempered}, "Uniform": {c, !uniform}, "Name": {d, name == ""}}
}

// expectError checks that all functions answer an error, and nothing else.
func expectError(t *testing.T, answers map[string]answer, want api.Errno) {
	t.Helper()
	for name, got := range answers {
		if got.e != want || !got.isZero {
			t.Errorf("%s: %d (other results are zero: %t), not %d", name, got.e, got.isZero, want)
		}
	}
}

func TestErrors(t *testing.T) {
	p, right := api.Primes{2, 3, 5}, api.Row{12, 19, 28}
	for _, list := range wrongLists() {
		expectError(t, withPrimes(list.p), list.e)
		expectError(t, withVal(list.p, right, right), list.e)
		for _, v := range wrongVals() {
			expectError(t, withVal(list.p, v.x, v.x), list.e)
		}
	}
	for _, v := range wrongVals() {
		expectError(t, withVal(p, v.x, right), v.e)
		for _, x := range wrongIntervals() {
			expectError(t, withVal(p, v.x, x.x), v.e)
		}
	}
	for _, x := range wrongIntervals() {
		n, e := val.Steps(p, right, x.x)
		is, f := val.Tempered(p, right, x.x)
		expectError(t, map[string]answer{"Steps": {e, n == 0}, "Tempered": {f, !is}}, x.e)
	}
	for _, steps := range []int{math.MinInt, -1, 0, val.MaxSteps + 1, math.MaxInt} {
		patent, e := val.Patent(p, steps)
		expectError(t, map[string]answer{"Patent": {e, patent == nil}}, api.ErrRange)
		for _, index := range []int{-1, 0, 2, 3} {
			n, e := val.Nearest(p, steps, index)
			expectError(t, map[string]answer{"Nearest": {e, n == 0}}, api.ErrRange)
		}
	}
	for _, index := range []int{math.MinInt, -1, 3, math.MaxInt} {
		n, e := val.Nearest(p, 12, index)
		expectError(t, map[string]answer{"Nearest": {e, n == 0}}, api.ErrUnknown)
	}
	for _, c := range []struct{ low, high int }{{0, 5}, {-1, 5}, {math.MinInt, math.MaxInt}, {1, val.MaxSteps + 1}, {1, math.MaxInt}, {6, 5}, {1, 0}, {1, math.MinInt}, {val.MaxSteps + 1, val.MaxSteps + 1}, {math.MaxInt, 5}} {
		l, e := val.Between(p, c.low, c.high)
		expectError(t, map[string]answer{"Between": {e, l == nil}}, api.ErrRange)
	}
}

// Arguments are as before, and results share no memory with them or with each other.
func TestMemory(t *testing.T) {
	p, v, x := api.Primes{2, 3, 5}, api.Row{12, 19, 28}, api.Row{-4, 4, -1}
	results, _ := val.Between(p, 1, 9)
	for _, steps := range []int{12, 12} {
		patent, _ := val.Patent(p, steps)
		parsed, _ := val.Parse(p, "12bc")
		results = append(results, patent, parsed)
	}
	withVal(p, v, x)
	for i, r := range results {
		for j := range r {
			r[j] = i
		}
		// What is behind the end of a row may not be another one, either.
		_ = append(r, -1, -2)
	}
	for i, r := range results {
		if !slices.Equal(r, api.Row{i, i, i}) {
			t.Errorf("result %d is %v", i, r)
		}
	}
	if !slices.Equal(p, api.Primes{2, 3, 5}) || !slices.Equal(v, api.Row{12, 19, 28}) || !slices.Equal(x, api.Row{-4, 4, -1}) {
		t.Errorf("the arguments are %v, %v, %v", p, v, x)
	}
}

// Every function ends, and answers an error alone or a right result, for any arguments.
func TestAnyArguments(t *testing.T) {
	r := rand.New(rand.NewPCG(17, 2))
	anyInt := func() int {
		return []int{0, 1, -1, 2, 12, 19, 1000, -1000, val.MaxSteps, most, -most, most + 1, math.MaxInt, math.MinInt}[r.IntN(14)]
	}
	for range 5000 {
		p := api.Primes{2, 2 + r.IntN(4), 7}
		v, x := api.Row{anyInt(), anyInt(), anyInt()}, api.Row{anyInt(), anyInt(), anyInt()}
		wanted := val.Check(p, v)
		for name, got := range withVal(p, v, x) {
			if wanted != api.OK && got.e != wanted || got.e != api.OK && !got.isZero {
				t.Errorf("%s(%v, %v, %v): %d", name, p, v, x, got.e)
			}
		}
		low, high := anyInt(), anyInt()
		if l, e := val.Between(p, low, high); e != api.OK && l != nil {
			t.Errorf("Between(%v, %d, %d): %d with results", p, low, high, e)
		}
		var text []byte
		for range r.IntN(8) {
			text = append(text, "0123456789abcd-+ \xff"[r.IntN(18)])
		}
		if w, e := val.Parse(p, string(text)); e != api.OK && w != nil || e == api.OK && val.Check(p, w) != api.OK {
			t.Errorf("Parse(%v, %q) = %v, %d", p, text, w, e)
		}
	}
}
