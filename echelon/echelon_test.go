package echelon_test

import (
	"math/rand/v2"
	"slices"
	"testing"

	"schisma/api"
	"schisma/echelon"
	"schisma/number"
)

// long returns a number with 31 digits times a short one.
func long(n int) number.Number {
	return number.From("1000000000000000000000000000057").Mul(number.Of(n))
}

// random returns rows of numbers, some of which are long.
func random(r *rand.Rand, rows, columns int) []number.Row {
	var m []number.Row
	for range rows {
		var x number.Row
		for range columns {
			a := number.Of(r.IntN(11) - 5)
			if r.IntN(4) == 0 {
				a = long(r.IntN(3)).Add(a)
			}
			x = append(x, a)
		}
		m = append(m, x)
	}
	return m
}

// isForm reports whether rows are in normal form.
func isForm(form []number.Row) bool {
	last := -1
	for i, r := range form {
		column := r.Pivot()
		if column <= last || r[column].Sign() < 0 {
			return false
		}
		for _, above := range form[:i] {
			if above[column].Sign() < 0 || above[column].Sub(r[column]).Sign() >= 0 {
				return false
			}
		}
		last = column
	}
	return true
}

func TestForm(t *testing.T) {
	r := rand.New(rand.NewPCG(7, 9))
	for range 300 {
		rows := random(r, 1+r.IntN(4), 1+r.IntN(4))
		form := echelon.Form(rows)
		if !isForm(form) {
			t.Fatalf("Form(%v) = %v", rows, form)
		}
		for _, x := range rows {
			if rest, _ := echelon.Reduce(form, x); rest.Pivot() >= 0 {
				t.Errorf("Form(%v) = %v lacks %v", rows, form, x)
			}
		}
		both := echelon.WithMultiples(rows)
		width := len(rows[0])
		for i, x := range both {
			for j := range width {
				var column number.Row
				for _, y := range rows {
					column = append(column, y[j])
				}
				if x[j] != number.Dot(x[width:], column) || i < len(form) && x[j] != form[i][j] || i >= len(form) && !x[j].IsZero() {
					t.Errorf("WithMultiples(%v) = %v", rows, both)
				}
			}
		}
		if len(both) != len(rows) || !isForm(both) {
			t.Errorf("WithMultiples(%v) = %v", rows, both)
		}
	}
}

func TestKernel(t *testing.T) {
	r := rand.New(rand.NewPCG(7, 10))
	for range 300 {
		rows := random(r, 1+r.IntN(4), r.IntN(4))
		width := len(rows[0])
		kernel := echelon.Kernel(rows)
		if !isForm(kernel) || len(kernel)+len(echelon.Form(rows)) != len(rows) {
			t.Errorf("Kernel(%v) = %v", rows, kernel)
		}
		for _, multiples := range kernel {
			for _, column := range number.Transpose(rows, width) {
				if !number.Dot(multiples, column).IsZero() {
					t.Errorf("Kernel(%v) = %v", rows, kernel)
				}
			}
		}
		annihilator := echelon.Annihilator(rows, width)
		if !slices.EqualFunc(annihilator, echelon.Kernel(number.Transpose(rows, width)), slices.Equal) {
			t.Errorf("Annihilator(%v) = %v", rows, annihilator)
		}
		// The saturation has all rows, and it is its own saturation.
		saturation := echelon.Annihilator(annihilator, width)
		for _, x := range rows {
			if rest, _ := echelon.Reduce(saturation, x); rest.Pivot() >= 0 {
				t.Errorf("the saturation %v lacks %v", saturation, x)
			}
		}
		if len(saturation)+len(annihilator) != width || !slices.EqualFunc(echelon.Annihilator(saturation, width), annihilator, slices.Equal) {
			t.Errorf("%v has the annihilator %v and the saturation %v", rows, annihilator, saturation)
		}
	}
	if got := echelon.Kernel(nil); len(got) != 0 {
		t.Errorf("Kernel of no rows = %v", got)
	}
	for columns := range 4 {
		if got := echelon.Annihilator(nil, columns); !slices.EqualFunc(got, number.Identity(columns), slices.Equal) {
			t.Errorf("Annihilator of no rows = %v", got)
		}
	}
	// A saturation that is known.
	rows := []number.Row{{long(2), long(4), long(0)}, {number.Of(0), number.Of(3), number.Of(6)}}
	want := []number.Row{{number.Of(1), number.Of(0), number.Of(-4)}, {number.Of(0), number.Of(1), number.Of(2)}}
	if got := echelon.Annihilator(echelon.Annihilator(rows, 3), 3); !slices.EqualFunc(got, want, slices.Equal) {
		t.Errorf("saturation %v", got)
	}
}

func TestReduce(t *testing.T) {
	form := []number.Row{{number.Of(2), number.Of(1), long(1)}, {number.Of(0), number.Of(3), number.Of(7)}}
	x := number.Row{number.Of(5), number.Of(-1), number.Of(0)}
	rest, multiples := echelon.Reduce(form, x)
	if !slices.Equal(multiples, number.Row{number.Of(2), number.Of(-1)}) || !slices.Equal(rest, number.Row{number.Of(1), number.Of(0), long(-2).Add(number.Of(7))}) {
		t.Errorf("Reduce = %v, %v", rest, multiples)
	}
	if x[0] != number.Of(5) {
		t.Error("the argument was changed")
	}
}

func TestPivots(t *testing.T) {
	form := number.FromMatrix(api.Matrix{{0, 2, 1, 0}, {0, 0, 0, 4}, {0, 0, 0, 0}})
	var columns []int
	for column := range echelon.Pivots(form) {
		columns = append(columns, column)
		if column == 3 {
			break
		}
	}
	if !slices.Equal(columns, []int{1, 3}) {
		t.Errorf("Pivots: %v", columns)
	}
}
