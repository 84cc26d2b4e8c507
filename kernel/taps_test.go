package kernel_test

import (
	"math"
	"testing"

	"halide/api"
	"halide/kernel"
)

func checkTold(t *testing.T, kind, from, to, i int) {
	t.Helper()
	got, e := kernel.Taps(kind, from, to, i)
	checkTaps(t, kind, from, to, i, got, e, tapsTold(kind, from, to, i))
}

func TestP9_2EverySmallSize(t *testing.T) {
	for _, kind := range kinds() {
		for from := 1; from <= 18; from++ {
			for to := (from + 14) / 15; to <= 18; to++ {
				for i := range to {
					checkTold(t, kind, from, to, i)
				}
			}
		}
	}
}

func greatSizes() [][2]int {
	return [][2]int{
		{1, 1}, {15, 1}, {30, 2}, {45, 3}, {1, 2}, {2, 30}, {1, 1024}, {2, 1024}, {3, 1024}, {4, 1024}, {5, 1024}, {7, 1023},
		{1024, 1024}, {1024, 1023}, {1023, 1024}, {1024, 512}, {512, 1024}, {1024, 69}, {1020, 68}, {1005, 67}, {1023, 341}, {640, 480}, {480, 640}, {1000, 999}, {97, 89},
	}
}

// somePlaces: the ends, where weights count for the row's, and some between.
func somePlaces(to int) []int {
	var l []int
	for i := range to {
		if i < 5 || i >= to-5 || i%61 == 6 {
			l = append(l, i)
		}
	}
	return l
}

func TestP9_2GreatSizes(t *testing.T) {
	for _, kind := range kinds() {
		for _, z := range greatSizes() {
			for _, i := range somePlaces(z[1]) {
				checkTold(t, kind, z[0], z[1], i)
			}
		}
	}
}

// Each place of a row made much greater: there Cubic has the least weights that there are.
func TestP9_2EveryPlace(t *testing.T) {
	for _, kind := range kinds() {
		for _, z := range [][2]int{{5, 1024}, {211, 1013}} {
			for i := range z[1] {
				checkTold(t, kind, z[0], z[1], i)
			}
		}
	}
}

func TestP9_2ByHand(t *testing.T) {
	for _, c := range []struct {
		kind, from, to, i int
		want              []api.Tap
	}{
		{api.Box, 2, 1, 0, []api.Tap{{At: 0, N: 32768}, {At: 1, N: 32768}}},
		{api.Box, 3, 1, 0, []api.Tap{{At: 0, N: 21846}, {At: 1, N: 21845}, {At: 2, N: 21845}}},
		{api.Box, 3, 2, 0, []api.Tap{{At: 0, N: 65536}}},                                        // d of 1 is 1/2: no weight
		{api.Box, 3, 2, 1, []api.Tap{{At: 1, N: 32768}, {At: 2, N: 32768}}},                     // d of 1 is -1/2: one
		{api.Box, 1, 3, 2, []api.Tap{{At: 0, N: 65536}}},                                        // a row of one place
		{api.Box, 2, 3, 1, []api.Tap{{At: 0, N: 65536}}},                                        // d of 0 is -1/2, of 1 it is 1/2
		{api.Tent, 3, 1, 0, []api.Tap{{At: 0, N: 21846}, {At: 1, N: 21845}, {At: 2, N: 21845}}}, // -1 to 3 have 1/3, 2/3, 1, 2/3, 1/3; -2 and 4 lie at 1
		{api.Tent, 4, 2, 0, []api.Tap{{At: 0, N: 32768}, {At: 1, N: 24576}, {At: 2, N: 8192}}},  // -1 has 1/4 of 2, and 0 has 3/4
		{api.Tent, 4, 2, 1, []api.Tap{{At: 1, N: 8192}, {At: 2, N: 24576}, {At: 3, N: 32768}}},
		{api.Tent, 1, 2, 1, []api.Tap{{At: 0, N: 65536}}},
		{api.Cubic, 1, 7, 0, []api.Tap{{At: 0, N: 65536}}},
		{api.Cubic, 2, 4, 2, []api.Tap{{At: 0, N: 13312}, {At: 1, N: 52224}}},
		{api.Cubic, 5, 10, 4, []api.Tap{{At: 0, N: -1536}, {At: 1, N: 14848}, {At: 2, N: 56832}, {At: 3, N: -4608}}}, // -3, 29, 111, -9 of 128
		{api.Cubic, 5, 10, 5, []api.Tap{{At: 1, N: -4608}, {At: 2, N: 56832}, {At: 3, N: 14848}, {At: 4, N: -1536}}},
		{api.Cubic, 3, 1024, 172, []api.Tap{{At: 0, N: 65357}, {At: 1, N: 180}, {At: 2, N: -1}}},
	} {
		got, e := kernel.Taps(c.kind, c.from, c.to, c.i)
		checkTaps(t, c.kind, c.from, c.to, c.i, got, e, c.want)
	}
}

// The place without has a weight, so small that its share is 0.
func TestP9_2NoShareIsLeftOut(t *testing.T) {
	for _, c := range []struct{ from, i, without int }{{4, 128, 2}, {5, 102, 2}, {5, 307, 3}, {5, 716, 1}, {5, 921, 2}} {
		if weightTold(api.Cubic, distanceTold(c.from, 1024, c.i, c.without)).Sign() == 0 {
			t.Fatalf("%+v has no weight there", c)
		}
		got, e := kernel.Taps(api.Cubic, c.from, 1024, c.i)
		checkTaps(t, api.Cubic, c.from, 1024, c.i, got, e, tapsTold(api.Cubic, c.from, 1024, c.i))
		for _, tap := range got {
			if tap.At == c.without || tap.N == 0 {
				t.Fatalf("%+v: a share of 0 is told: %v", c, got)
			}
		}
	}
}

func checkRefused(t *testing.T, kind, from, to, i int, want api.Errno) {
	t.Helper()
	if got, e := kernel.Taps(kind, from, to, i); e != want || len(got) != 0 {
		t.Fatalf("Taps(%d, %d, %d, %d): %v, %d, want nothing and %d", kind, from, to, i, got, e, want)
	}
}

func wrongKinds() []int { return []int{0, 4, -1, 5, 90, math.MaxInt, math.MinInt} }

func wrongSides() []int {
	return []int{0, -1, 1025, -1024, 1 << 32, 1<<32 + 1, math.MaxInt, math.MinInt, math.MaxInt / 15}
}

// Whatever else is wrong.
func TestP9_2NoKindComesFirst(t *testing.T) {
	for _, kind := range wrongKinds() {
		for _, c := range [][3]int{{4, 2, 1}, {1, 1, 0}, {0, 1, 0}, {1, 1025, 0}, {1, 1, 1}, {31, 2, 0}, {math.MaxInt, math.MinInt, -1}} {
			checkRefused(t, kind, c[0], c[1], c[2], api.ErrKernelKind)
		}
	}
}

func TestP9_2NoSize(t *testing.T) {
	for _, kind := range kinds() {
		for _, side := range wrongSides() {
			for _, c := range [][3]int{{side, 1, 0}, {side, 1024, 1023}, {1, side, 0}, {1024, side, 0}, {side, side, 0}, {side, 2, 9}, {1024, side, -1}} {
				checkRefused(t, kind, c[0], c[1], c[2], api.ErrKernelSize)
			}
		}
		for _, z := range greatSizes() {
			for _, i := range []int{-1, z[1], z[1] + 1, -z[1], 1 << 32, math.MaxInt, math.MinInt} {
				checkRefused(t, kind, z[0], z[1], i, api.ErrKernelSize)
			}
		}
		checkRefused(t, kind, 31, 2, 2, api.ErrKernelSize) // no place is told ahead of too many taps
		checkRefused(t, kind, 31, 2, -1, api.ErrKernelSize)
	}
}

func TestP9_2TooManyTaps(t *testing.T) {
	for _, kind := range kinds() {
		for to := 1; to <= 69; to++ {
			for _, i := range []int{0, to - 1} {
				if 15*to <= api.MaxSide {
					if l, e := kernel.Taps(kind, 15*to, to, i); e != api.OK || len(l) == 0 {
						t.Fatalf("Taps(%d, %d, %d, %d): %v, %d", kind, 15*to, to, i, l, e)
					}
				}
				if 15*to < api.MaxSide {
					checkRefused(t, kind, 15*to+1, to, i, api.ErrKernelTaps)
					checkRefused(t, kind, api.MaxSide, to, i, api.ErrKernelTaps)
				}
			}
		}
		checkTold(t, kind, 1024, 69, 33)
	}
}
