package val_test

import (
	"fmt"
	"slices"
	"testing"

	"schisma/api"
	"schisma/val"
)

// P17.4

// Vals are uniform exactly if they come for a number of steps: those that differ from one of these by little are tried, too.
func TestUniform(t *testing.T) {
	for _, p := range lists() {
		found := map[string]bool{}
		vals := uniform(t, p, -20, 20)
		for _, v := range vals {
			found[fmt.Sprint(v)] = true
		}
		uniforms, others := 0, 0
		for _, v := range vals {
			// All numbers of steps with this first element are among those that were tried.
			if v[0] < -18 || v[0] > 18 {
				continue
			}
			for i := range p {
				for _, n := range []int{-2, -1, 0, 1, 2} {
					w := changed(v, i, v[i]+n)
					if w[0] < -18 || w[0] > 18 {
						continue
					}
					want := found[fmt.Sprint(w)]
					if is, e := val.Uniform(p, w); e != api.OK || is != want {
						t.Errorf("Uniform(%v, %v) = %t, %d", p, w, is, e)
					}
					if want {
						uniforms++
					} else {
						others++
					}
				}
			}
		}
		if uniforms == 0 || len(p) > 1 && others == 0 {
			t.Errorf("over %v %d vals were uniform, and %d others", p, uniforms, others)
		}
	}
}

// Vals without steps, with negative ones, and great ones.
func TestUniformOfAny(t *testing.T) {
	for _, c := range []struct {
		p  api.Primes
		v  api.Row
		is bool
	}{
		{api.Primes{2, 3, 5}, api.Row{0, 0, 0}, true}, {api.Primes{2, 3, 5}, api.Row{0, 0, 1}, true}, {api.Primes{2, 3, 5}, api.Row{0, 1, 0}, false}, {api.Primes{2, 3, 5}, api.Row{0, 0, 2}, false}, {api.Primes{2, 3, 5}, api.Row{1, 0, 0}, false},
		{api.Primes{2, 3, 5}, api.Row{-12, -19, -28}, true}, {api.Primes{2, 3, 5}, api.Row{-12, -19, 28}, false}, {api.Primes{2, 3, 5}, api.Row{12, 20, 27}, false}, {api.Primes{2, 3, 5}, api.Row{-1, -1, -2}, true}, {api.Primes{2, 3, 5}, api.Row{0, 0, -1}, true},
		// The place of 2 is 630929753.57 if that of 3 is 1000000000.
		{api.Primes{2, 3}, api.Row{630_929_752, most}, false}, {api.Primes{2, 3}, api.Row{630_929_753, most}, true}, {api.Primes{2, 3}, api.Row{630_929_754, most}, true}, {api.Primes{2, 3}, api.Row{630_929_755, most}, false},
		{api.Primes{2, 3}, api.Row{-630_929_754, -most}, true}, {api.Primes{2, 3}, api.Row{-630_929_755, -most}, false}, {api.Primes{2, 3}, api.Row{most, most}, false}, {api.Primes{2, 3}, api.Row{-most, most}, false},
		{api.Primes{97}, api.Row{most}, true}, {api.Primes{97}, api.Row{-most}, true}, {api.Primes{2}, api.Row{0}, true},
	} {
		if is, e := val.Uniform(c.p, c.v); e != api.OK || is != c.is {
			t.Errorf("Uniform(%v, %v) = %t, %d", c.p, c.v, is, e)
		}
	}
}

func TestBetween(t *testing.T) {
	for _, p := range lists() {
		for _, c := range []struct{ low, high int }{{1, 1}, {1, 2}, {2, 2}, {5, 5}, {12, 12}, {1, 20}, {7, 31}, {305, 307}, {9_999, 10_002}, {99_998, val.MaxSteps}, {val.MaxSteps, val.MaxSteps}} {
			want := between(t, p, c.low, c.high)
			got, e := val.Between(p, c.low, c.high)
			if e != api.OK || !equal(got, want) {
				t.Errorf("Between(%v, %d, %d) = %v, %d, not %v", p, c.low, c.high, got, e, want)
			}
		}
	}
}

// A list has at most MaxVals vals.
func TestLongLists(t *testing.T) {
	for _, c := range []struct {
		p         api.Primes
		low, high int
		e         api.Errno
	}{
		{api.Primes{2}, 1, val.MaxVals, api.OK}, {api.Primes{2}, 1, val.MaxVals + 1, api.ErrLimit}, {api.Primes{97}, val.MaxSteps - val.MaxVals + 1, val.MaxSteps, api.OK}, {api.Primes{97}, val.MaxSteps - val.MaxVals, val.MaxSteps, api.ErrLimit},
		{api.Primes{2, 3}, 1, val.MaxSteps, api.ErrLimit}, {api.Primes{2, 3, 5, 7, 11, 13}, 1, 1000, api.ErrLimit},
	} {
		l, e := val.Between(c.p, c.low, c.high)
		if e != c.e || e == api.OK && len(l) != val.MaxVals || e != api.OK && l != nil {
			t.Errorf("Between(%v, %d, %d): %d vals, %d", c.p, c.low, c.high, len(l), e)
		}
	}
	// Over more primes ranges with just as many are found among those that begin with different numbers.
	p := api.Primes{2, 3}
	fit, exceed := 0, 0
	for low := 1; low <= 10; low++ {
		for high := low + 771; high <= low+775; high++ {
			want := between(t, p, low, high)
			l, e := val.Between(p, low, high)
			switch {
			case len(want) <= val.MaxVals && (e != api.OK || !equal(l, want)), len(want) > val.MaxVals && (e != api.ErrLimit || l != nil):
				t.Errorf("Between(%v, %d, %d): %d vals, %d, not %d", p, low, high, len(l), e, len(want))
			case len(want) == val.MaxVals:
				fit++
			case len(want) == val.MaxVals+1:
				exceed++
			}
		}
	}
	if fit == 0 || exceed == 0 {
		t.Errorf("%d ranges have %d vals, and %d one more", fit, val.MaxVals, exceed)
	}
}

// P17.6: each val differs from the one before by 1 in one place, and the patent vals are among them.
func TestNeighbours(t *testing.T) {
	for _, p := range lists() {
		const low, high = 3, 40
		l, e := val.Between(p, low, high)
		if e != api.OK {
			t.Fatalf("Between(%v): %d", p, e)
		}
		for i, v := range l {
			if is, e := val.Uniform(p, v); e != api.OK || !is || v[0] < low || v[0] > high {
				t.Errorf("Between(%v) has %v, which is uniform: %t, %d", p, v, is, e)
			}
			if i == 0 {
				continue
			}
			difference := 0
			for j, n := range v {
				difference += max(n-l[i-1][j], l[i-1][j]-n)
			}
			if difference != 1 || slices.Compare(l[i-1], v) >= 0 {
				t.Errorf("over %v %v comes behind %v", p, v, l[i-1])
			}
		}
		for steps := low; steps <= high; steps++ {
			patent, _ := val.Patent(p, steps)
			if !slices.ContainsFunc(l, func(v api.Row) bool { return slices.Equal(v, patent) }) {
				t.Errorf("over %v the patent val %v is missing", p, patent)
			}
		}
	}
}
