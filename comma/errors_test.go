package comma_test

import (
	"fmt"
	"math"
	"math/rand/v2"
	"slices"
	"testing"

	"schisma/api"
	"schisma/comma"
)

// answer is what a function returned.
type answer struct {
	e      api.Errno
	isZero bool // whether all other results are zero values
}

// withQuestion returns what each function of a question alone answers.
func withQuestion(q comma.Question) map[string]answer {
	l, e := comma.List(q)
	smallest, f := comma.Smallest(q, comma.MaxCount)
	records, g := comma.Records(q)
	superparticular, h := comma.Superparticular(q)
	return map[string]answer{"List": {e, l == nil}, "Smallest": {f, smallest == nil}, "Records": {g, records == nil}, "Superparticular": {h, superparticular == nil}}
}

// withForm returns what each function of a question and a lattice answers.
func withForm(q comma.Question, form api.Matrix) map[string]answer {
	l, e := comma.In(q, form)
	x, found, f := comma.Least(q, form)
	return map[string]answer{"In": {e, l == nil}, "Least": {f, x == nil && !found}}
}

// expectError checks that all functions answer an error, and nothing else.
func expectError(t *testing.T, answers map[string]answer, want api.Errno) {
	t.Helper()
	for name, got := range answers {
		if got.e != want || !got.isZero {
			t.Errorf("%s: %d (other results are zero: %t), not %d", name, got.e, got.isZero, want)
		}
	}
}

// P1: errors come in their order, and nothing else comes with them.

func TestErrorsOfQuestions(t *testing.T) {
	for _, c := range wrongQuestions() {
		expectError(t, withQuestion(c.q), c.e)
		for _, form := range []api.Matrix{nil, {{4, -4, 1}}} {
			expectError(t, withForm(c.q, form), c.e)
		}
		for _, f := range wrongForms() {
			expectError(t, withForm(c.q, f.form), c.e)
		}
		for _, count := range []int{-1, comma.MaxCount + 1} {
			if l, e := comma.Smallest(c.q, count); e != c.e || l != nil {
				t.Errorf("Smallest(%v, %d) = %v, %d, not %d", c.q, count, l, e, c.e)
			}
		}
	}
}

// The errors of a count, and of a lattice, come before that of a list that is too long.
func TestErrorsBeforeTheList(t *testing.T) {
	right := comma.Question{Primes: api.Primes{2, 3, 5}, Height: 81, Most: api.Row{-3, -1, 2}}
	_, exceeds := long()
	for _, q := range []comma.Question{right, exceeds} {
		for _, count := range []int{-1, math.MinInt, comma.MaxCount + 1, math.MaxInt} {
			if l, e := comma.Smallest(q, count); e != api.ErrRange || l != nil {
				t.Errorf("Smallest(%v, %d) = %v, %d", q, count, l, e)
			}
		}
		for _, c := range wrongForms() {
			expectError(t, withForm(q, c.form), c.e)
		}
	}
	if l, e := comma.Smallest(exceeds, 0); e != api.ErrLimit || l != nil {
		t.Errorf("Smallest of none = %v, %d", l, e)
	}
}

func TestErrorsOfCombine(t *testing.T) {
	p, fifth := api.Primes{2, 3, 5}, api.Row{-1, 1, 0}
	for _, c := range []struct {
		p    api.Primes
		l    []api.Row
		most int
		e    api.Errno
	}{
		{nil, nil, 1, api.ErrEmpty}, {api.Primes{2, 4}, []api.Row{{1}}, -1, api.ErrPrime}, {api.Primes{3, 2}, nil, -1, api.ErrOrder}, {api.Primes{2, 3, 5, 7, 11, 13, 17}, nil, 1, api.ErrLimit},
		{p, []api.Row{{1, 0}}, -1, api.ErrSize}, {p, []api.Row{fifth, nil}, 5000, api.ErrSize}, {p, []api.Row{fifth, {0, 1001, 0}, {1}}, -1, api.ErrLimit}, {p, []api.Row{fifth, {1}, {0, 1001, 0}}, -1, api.ErrSize}, {p, []api.Row{{math.MinInt, 0, 0}}, 0, api.ErrLimit},
		{p, nil, -1, api.ErrRange}, {p, []api.Row{fifth}, -1, api.ErrRange}, {p, slices.Repeat([]api.Row{fifth}, 20), math.MinInt, api.ErrRange}, {p, []api.Row{fifth}, math.MaxInt, api.ErrLimit},
	} {
		if l, e := comma.Combine(c.p, c.l, c.most); e != c.e || l != nil {
			t.Errorf("Combine(%v, %v, %d) = %v, %d, not %d", c.p, c.l, c.most, l, e, c.e)
		}
	}
}

// Arguments are as before, and results share no memory with them or with each other.
func TestMemory(t *testing.T) {
	q := comma.Question{Primes: api.Primes{2, 3, 5}, Height: 100, Most: api.Row{1, 0, 0}}
	form, some := api.Matrix{{1, 0, 0}, {0, 1, 0}, {0, 0, 1}}, []api.Row{{-1, 1, 0}, {-2, 0, 1}}
	before := fmt.Sprint(q, form, some)
	var results []api.Row
	keep := func(l []api.Row, _ api.Errno) {
		results = append(results, l...)
	}
	keep(comma.List(q))
	keep(comma.Smallest(q, 20))
	keep(comma.Records(q))
	keep(comma.Superparticular(q))
	keep(comma.In(q, form))
	keep(comma.Combine(q.Primes, some, 3))
	keep(comma.Combine(q.Primes, some[:1], 1))
	least, _, _ := comma.Least(q, form)
	results = append(results, least)
	for i, x := range results {
		for j := range x {
			x[j] = i
		}
		// What is behind the end of a row may not be another one, either.
		_ = append(x, -1, -2)
	}
	for i, x := range results {
		if !slices.Equal(x, api.Row{i, i, i}) {
			t.Errorf("result %d is %v", i, x)
		}
	}
	if after := fmt.Sprint(q, form, some); after != before {
		t.Errorf("the arguments are %s, not %s", after, before)
	}
}

// Every function ends, and answers an error alone or right intervals, for any arguments.
func TestAnyArguments(t *testing.T) {
	r := rand.New(rand.NewPCG(16, 2))
	anyInt := func() int {
		return []int{0, 1, -1, 2, 5, 100, 1000, 1001, comma.MaxHeight, api.MaxEntry + 1, math.MaxInt, math.MinInt}[r.IntN(12)]
	}
	anyRow := func() api.Row {
		x := make(api.Row, 2+r.IntN(9)/8)
		for i := range x {
			if r.IntN(2) == 0 {
				x[i] = anyInt()
			}
		}
		return x
	}
	for range 2000 {
		q := comma.Question{Primes: api.Primes{2, 3 + r.IntN(5)}, Height: anyInt(), Most: anyRow()}
		var form api.Matrix
		for range r.IntN(3) {
			form = append(form, anyRow())
		}
		for name, got := range withForm(q, form) {
			if got.e != api.OK && !got.isZero || got.e == api.OK && comma.Check(q) != api.OK {
				t.Errorf("%s(%v, %v): %d", name, q, form, got.e)
			}
		}
		for name, got := range withQuestion(q) {
			if e := comma.Check(q); e != got.e || e != api.OK && !got.isZero {
				t.Errorf("%s(%v): %d, not %d", name, q, got.e, e)
			}
		}
		if l, e := comma.Combine(q.Primes, form, anyInt()); e != api.OK && l != nil {
			t.Errorf("Combine(%v, %v): %d with results", q.Primes, form, e)
		}
	}
}
