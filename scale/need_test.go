package scale_test

import (
	"math"
	"testing"

	"halide/api"
	"halide/scale"
)

func checkNeed(t *testing.T, kind, from, to, lo, hi, first, end int) {
	t.Helper()
	if a, b, e := scale.Need(kind, from, to, lo, hi); a != first || b != end || e != api.OK {
		t.Fatalf("Need(%d, %d, %d, %d, %d): %d, %d, %d, want %d, %d", kind, from, to, lo, hi, a, b, e, first, end)
	}
}

func checkNeedRefused(t *testing.T, kind, from, to, lo, hi int, want api.Errno) {
	t.Helper()
	if a, b, e := scale.Need(kind, from, to, lo, hi); a != 0 || b != 0 || e != want {
		t.Fatalf("Need(%d, %d, %d, %d, %d): %d, %d, %d, want %d", kind, from, to, lo, hi, a, b, e, want)
	}
}

func checkNeedTold(t *testing.T, kind, from, to, lo, hi int) {
	t.Helper()
	first, end := needTold(kind, from, to, lo, hi)
	checkNeed(t, kind, from, to, lo, hi, first, end)
}

func TestP10_4EverySmallSize(t *testing.T) {
	for _, kind := range kinds() {
		for from := 1; from <= 16; from++ {
			for to := (from + 14) / 15; to <= 12; to++ {
				for lo := 0; lo < to; lo++ {
					for hi := lo + 1; hi <= to; hi++ {
						checkNeedTold(t, kind, from, to, lo, hi)
					}
				}
			}
		}
	}
}

// 5 to 1024 by Cubic has taps whose share is 0, which are left out: so the first and the last places' taps aren't all that there are.
func TestP10_4GreatSizes(t *testing.T) {
	for _, kind := range kinds() {
		for _, z := range [][2]int{{1, 1024}, {5, 1024}, {4, 1024}, {1024, 1024}, {1024, 69}, {1020, 68}, {640, 480}, {480, 640}, {15, 1}} {
			from, to := z[0], z[1]
			for _, lo := range []int{0, 1, to / 10, to / 2, to - 2, to - 1} {
				for _, n := range []int{1, 2, 3, 30, to} {
					if lo >= 0 && lo+n <= to {
						checkNeedTold(t, kind, from, to, lo, lo+n)
					}
				}
			}
		}
	}
}

// Of several places: whichever of them has the least place, or the greatest one.
func TestP10_4LeftOutTaps(t *testing.T) {
	for _, from := range []int{3, 4, 5, 6} {
		for lo := 0; lo < 1024; lo++ {
			for _, n := range []int{1, 2, 3} {
				if lo+n <= 1024 {
					checkNeedTold(t, api.Cubic, from, 1024, lo, lo+n)
				}
			}
		}
	}
}

func TestP10_4ByHand(t *testing.T) {
	checkNeed(t, api.Box, 8, 4, 1, 3, 2, 6)
	checkNeed(t, api.Box, 8, 4, 0, 4, 0, 8)
	checkNeed(t, api.Box, 3, 2, 0, 1, 0, 1)
	checkNeed(t, api.Box, 3, 2, 1, 2, 1, 3)
	checkNeed(t, api.Tent, 4, 2, 0, 1, 0, 3)
	checkNeed(t, api.Tent, 4, 2, 1, 2, 1, 4)
	checkNeed(t, api.Cubic, 5, 10, 4, 5, 0, 4)
	checkNeed(t, api.Cubic, 5, 10, 4, 6, 0, 5)
	checkNeed(t, api.Cubic, 1024, 1024, 1023, 1024, 1023, 1024)
	checkNeed(t, api.Tent, 1, 1, 0, 1, 0, 1)
}

// At and just outside the limits; the sizes and places come ahead of the kind, and of too many taps.
func TestP10_4NoSize(t *testing.T) {
	for _, kind := range append(kinds(), wrongKinds()...) {
		for _, n := range wrongSides() {
			checkNeedRefused(t, kind, n, 4, 0, 1, api.ErrScaleSize)
			checkNeedRefused(t, kind, 4, n, 0, 1, api.ErrScaleSize)
			checkNeedRefused(t, kind, n, n, 0, 1, api.ErrScaleSize)
			checkNeedRefused(t, kind, 4, n, 0, n, api.ErrScaleSize)
		}
		for _, z := range [][2]int{{8, 4}, {61, 4}, {1024, 4}, {1, 4}} {
			for _, c := range [][2]int{{-1, 1}, {-1, 4}, {0, 0}, {1, 1}, {2, 1}, {3, 0}, {0, 5}, {3, 5}, {4, 4}, {4, 5}, {-2, -1}, {-1, 0}, {0, -1}, {math.MinInt, 1}, {0, math.MaxInt}, {math.MinInt, math.MaxInt}, {math.MaxInt, math.MinInt}} {
				checkNeedRefused(t, kind, z[0], z[1], c[0], c[1], api.ErrScaleSize)
			}
		}
	}
	for _, kind := range kinds() {
		for _, c := range [][2]int{{0, 1}, {0, 4}, {3, 4}} {
			checkNeedTold(t, kind, 8, 4, c[0], c[1])
		}
	}
}

func TestP10_4KernelsErrors(t *testing.T) {
	for _, kind := range wrongKinds() {
		for _, z := range [][2]int{{8, 4}, {1, 1}, {16, 1}, {1024, 4}} {
			checkNeedRefused(t, kind, z[0], z[1], 0, 1, api.ErrKernelKind)
			checkNeedRefused(t, kind, z[0], z[1], z[1]-1, z[1], api.ErrKernelKind)
		}
	}
	for _, kind := range kinds() {
		for _, z := range [][2]int{{16, 1}, {31, 2}, {1021, 68}, {1024, 1}} {
			checkNeedRefused(t, kind, z[0], z[1], 0, z[1], api.ErrKernelTaps)
			checkNeedRefused(t, kind, z[0], z[1], z[1]-1, z[1], api.ErrKernelTaps)
		}
	}
}
