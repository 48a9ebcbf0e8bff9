package number_test

import (
	"math"
	"math/big"
	"testing"

	"schisma/number"
)

func TestBoxExceeds(t *testing.T) {
	for _, limit := range []int{1, 2, 3, 9, 10_000, 100_000} {
		for _, most := range []int{0, 1, 2, 4, 5, 49, 50, 4999, 5000, 49_999, 50_000, math.MaxInt - 1, math.MaxInt} {
			for _, count := range []int{0, 1, 2, 3, 4, 5, 8, 9, 11, 64, 1000} {
				width := new(big.Int).Add(big.NewInt(int64(most)), big.NewInt(int64(most)))
				width.Add(width, big.NewInt(1))
				ways := width.Exp(width, big.NewInt(int64(count)), nil)
				if want := ways.Cmp(big.NewInt(int64(limit))) > 0; number.BoxExceeds(most, count, limit) != want {
					t.Errorf("BoxExceeds(%d, %d, %d) is not %t", most, count, limit, want)
				}
			}
		}
	}
}
