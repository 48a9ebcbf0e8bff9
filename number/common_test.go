package number_test

import (
	"math/big"
	"testing"

	"schisma/api"
	"schisma/number"
)

func TestCommon(t *testing.T) {
	long := api.Int("123456789012345678901234567891")
	for i, c := range []struct {
		l    []api.Size
		want api.Int
	}{
		{nil, "1"}, {[]api.Size{nil}, "1"}, {[]api.Size{{{Num: "0", Den: "1"}, {Num: "-5", Den: "1"}}}, "1"},
		{[]api.Size{{{Num: "1", Den: "4"}, {Num: "-5", Den: "6"}}}, "12"}, {[]api.Size{{{Num: "1", Den: "4"}}, {{Num: "2", Den: "3"}}, nil, {{Num: "7", Den: "2"}}}, "12"},
		{[]api.Size{{{Num: long, Den: "2"}, {Num: "1", Den: long}}}, "246913578024691357802469135782"},
	} {
		rows, denominator := number.Common(c.l...)
		if denominator.Int() != c.want || len(rows) != len(c.l) {
			t.Errorf("%d: Common = %v, %s", i, rows, denominator.Int())
			continue
		}
		for j, s := range c.l {
			for k, x := range s {
				given, _ := new(big.Rat).SetString(string(x.Num) + "/" + string(x.Den))
				if got := new(big.Rat).SetFrac(value(t, rows[j][k]), value(t, denominator)); got.Cmp(given) != 0 {
					t.Errorf("%d: Common has %v, not %v", i, got, given)
				}
			}
		}
	}
}
