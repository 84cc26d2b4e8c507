package kernel_test

import (
	"fmt"
	"math"
	"math/big"
	"slices"
	"testing"

	"halide/api"
	"halide/kernel"
)

const most = 1 << 40

func checkShare(t *testing.T, w, want []int) {
	t.Helper()
	got, e := kernel.Share(w)
	checkNumbers(t, fmt.Sprint("Share of ", w), got, e, want)
}

// shareTold: of weights that Share takes.
func shareTold(w []int) []int {
	var l []*big.Rat
	for _, n := range w {
		l = append(l, rat(n, 1))
	}
	return sharesTold(l)
}

func TestP9_1ByHand(t *testing.T) {
	for _, c := range []struct{ w, want []int }{
		{[]int{7}, []int{65536}},
		{[]int{most}, []int{65536}},
		{[]int{1, 1}, []int{32768, 32768}},
		{[]int{1, 3}, []int{16384, 49152}},
		{[]int{0, 5}, []int{0, 65536}},
		{[]int{5, 0, 0}, []int{65536, 0, 0}},
		{[]int{1, 2}, []int{21845, 43691}},                           // fractions of 1/3 and 2/3: one is missing
		{[]int{2, 1}, []int{43691, 21845}},                           // the greatest fraction, not the last one
		{[]int{1, 1, 1, 0}, []int{21846, 21845, 21845, 0}},           // of fractions as great the one ahead
		{[]int{0, 1, 1, 1}, []int{0, 21846, 21845, 21845}},           // a nought has no fraction
		{[]int{1, 1, 1, 1, 1, 1}, repeatedBut(10922, 6, 1, 4)},       // four are missing
		{[]int{2, 2, 2, 1}, []int{18725, 18725, 18724, 9362}},        // 4/7, 4/7, 4/7, 2/7: two are missing
		{[]int{1, 2, 2, 2}, []int{9362, 18725, 18725, 18724}},        // the ones ahead among those as great
		{[]int{-1, 4}, []int{-21845, 87381}},                         // -21845 1/3 down is -21846, 2/3 above it
		{[]int{4, -1}, []int{87381, -21845}},                         // likewise, wherever it stands
		{[]int{-2, 5}, []int{-43691, 109227}},                        // 1/3 above -43691, and 2/3
		{[]int{-1, -1, 5}, []int{-21845, -21845, 109226}},            // 2/3, 2/3, 2/3: two are missing
		{[]int{1, 0, -1, 1}, []int{65536, 0, -65536, 65536}},         // a sum of 1
		{[]int{most, 1 - most}, []int{most << 16, 65536 - most<<16}}, // as great as shares become
		{[]int{-most, most, most}, []int{-65536, 65536, 65536}},
	} {
		checkShare(t, c.w, c.want)
	}
}

// repeatedBut: n many times, more of it in the first ones.
func repeatedBut(n, times, more, first int) []int {
	l := repeated(n, times)
	for i := range first {
		l[i] += more
	}
	return l
}

func TestP9_1Most(t *testing.T) {
	checkShare(t, repeated(1, 64), repeated(1024, 64))
	checkShare(t, repeated(most, 64), repeated(1024, 64))
	checkShare(t, repeated(3, 63), repeatedBut(1040, 63, 1, 16))
	balanced := repeated(most, 32) // shares of 2^56 in size, whose sum on the way is 2^61
	balanced = append(append(balanced, repeated(-most, 31)...), 1-most)
	want := append(repeated(most<<16, 32), repeated(-most<<16, 31)...)
	checkShare(t, balanced, append(want, 65536-most<<16))
}

func TestP9_1Refused(t *testing.T) {
	for _, w := range [][]int{
		nil, {}, repeated(1, 65), repeated(1, 66), repeated(1, 1000),
		{most + 1}, {1, most + 1}, {most + 1, -1}, {most, -most - 1, most}, {-most - 1, most, most}, append(repeated(1, 63), most+1),
		{math.MaxInt}, {1, math.MinInt}, {math.MinInt, math.MinInt, 1}, {math.MinInt, math.MaxInt, 2}, {math.MaxInt, math.MaxInt, 3}, {math.MinInt, -1},
		{0}, {0, 0, 0}, {1, -1}, {most, -most}, {-1}, {-1, 0}, {1, -2}, {-most}, {3, 4, -8}, repeated(-most, 64), append(repeated(-1, 32), repeated(1, 32)...),
	} {
		got, e := kernel.Share(w)
		checkNone(t, fmt.Sprint("Share of ", w), got, e)
	}
}

func TestP9_1EverySmallList(t *testing.T) {
	for a := -4; a <= 7; a++ {
		for b := -4; b <= 7; b++ {
			for c := -4; c <= 7; c++ {
				w := []int{a, b, c}
				if a+b+c > 0 {
					checkShare(t, w, shareTold(w))
					continue
				}
				got, e := kernel.Share(w)
				checkNone(t, fmt.Sprint("Share of ", w), got, e)
			}
		}
	}
}

func TestP9_1ByChance(t *testing.T) {
	next := chance(91)
	for range 1500 {
		w := make([]int, next()%64+1)
		width := next() % 42
		all := 0
		for i := range w {
			w[i] = int(next() % (1<<width + 1))
			if width < 41 && next()%3 == 0 {
				w[i] = -w[i]
			}
			w[i] = min(w[i], most)
			all += w[i]
		}
		if all <= 0 {
			got, e := kernel.Share(w)
			checkNone(t, fmt.Sprint("Share of ", w), got, e)
			continue
		}
		checkShare(t, w, shareTold(w))
	}
}

// A common factor changes nothing.
func TestP9_1Factor(t *testing.T) {
	for _, w := range [][]int{{1, 2, 3, 1}, {-9, 111, 29, -3}, {1, 1, 1}, {5, 0, 2, -1, 6}} {
		want := shareTold(w)
		for _, by := range []int{2, 3, 65536, 1 << 33, 999999937} {
			l := slices.Clone(w)
			for i := range l {
				l[i] *= by
			}
			checkShare(t, l, want)
		}
	}
}

func TestP9_1Errno(t *testing.T) {
	if api.ErrKernelKind != 90 || api.ErrKernelSize != 91 || api.ErrKernelTaps != 92 || api.MaxTaps != 64 {
		t.Fatal("the chapter's numbers are others")
	}
}
