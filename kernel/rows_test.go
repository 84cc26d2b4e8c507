package kernel_test

import (
	"fmt"
	"math"
	"math/big"
	"slices"
	"testing"

	"halide/kernel"
)

func TestP9_4Binomial(t *testing.T) {
	for r := 0; r <= 8; r++ {
		var want []int
		for k := 0; k <= 2*r; k++ {
			want = append(want, int(new(big.Int).Binomial(int64(2*r), int64(k)).Int64()))
		}
		got, e := kernel.Binomial(r)
		checkNumbers(t, fmt.Sprint("Binomial of ", r), got, e, want)
	}
	got, e := kernel.Binomial(2)
	checkNumbers(t, "Binomial of 2", got, e, []int{1, 4, 6, 4, 1})
	got, e = kernel.Binomial(0)
	checkNumbers(t, "Binomial of 0", got, e, []int{1})
}

func TestP9_4Flat(t *testing.T) {
	for r := 0; r <= 31; r++ {
		got, e := kernel.Flat(r)
		checkNumbers(t, fmt.Sprint("Flat of ", r), got, e, repeated(1, 2*r+1))
	}
}

func TestP9_4Refused(t *testing.T) {
	for _, r := range []int{-1, -2, 32, 33, 64, 1 << 32, math.MaxInt, math.MinInt} {
		got, e := kernel.Binomial(r)
		checkNone(t, fmt.Sprint("Binomial of ", r), got, e)
		got, e = kernel.Flat(r)
		checkNone(t, fmt.Sprint("Flat of ", r), got, e)
	}
	for r := 9; r <= 31; r++ {
		got, e := kernel.Binomial(r)
		checkNone(t, fmt.Sprint("Binomial of ", r), got, e)
	}
}

func TestP9_6Binomial(t *testing.T) {
	for r := 0; r <= 8; r++ {
		l, _ := kernel.Binomial(r)
		all := 0
		for _, n := range l {
			all += n
		}
		backwards := slices.Clone(l)
		slices.Reverse(backwards)
		if len(l) != 2*r+1 || all != 1<<(2*r) || !slices.Equal(l, backwards) {
			t.Fatalf("Binomial(%d): %v", r, l)
		}
	}
}
