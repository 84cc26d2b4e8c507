package plane_test

import (
	"math"
	"math/big"
	"testing"

	"halide/api"
	"halide/plane"
)

func kinds() []int { return []int{api.Clamp, api.Mirror, api.Wrap} }

func wrongKinds() []int { return []int{0, 4, -1, -2, 5, 1 << 32, math.MinInt, math.MaxInt} }

// mod: i modulo n, from 0 to n - 1.
func mod(i, n int) int {
	return int(new(big.Int).Mod(big.NewInt(int64(i)), big.NewInt(int64(n))).Int64())
}

func toldBorder(kind, n, i int) int {
	switch {
	case kind == api.Clamp && i < 0:
		return 0
	case kind == api.Clamp && i >= n:
		return n - 1
	case kind == api.Clamp:
		return i
	case kind == api.Wrap:
		return mod(i, n)
	case n == 1:
		return 0
	}
	m := mod(i, 2*(n-1))
	if m < n {
		return m
	}
	return 2*(n-1) - m
}

func checkBorder(t *testing.T, kind, n, i int) {
	t.Helper()
	if got, e := plane.Border(kind, n, i); got != toldBorder(kind, n, i) || e != api.OK {
		t.Fatalf("Border(%d, %d, %d): %d, %d, want %d", kind, n, i, got, e, toldBorder(kind, n, i))
	}
}

func TestP5_5Kinds(t *testing.T) {
	if api.Clamp != 1 || api.Mirror != 2 || api.Wrap != 3 {
		t.Error("kinds")
	}
}

func TestP5_5Border(t *testing.T) {
	for _, kind := range kinds() {
		for _, n := range []int{1, 2, 3, 4, 5, 7, 8, 64, 1023, 1024} {
			for i := -4*n - 3; i <= 4*n+3; i++ {
				checkBorder(t, kind, n, i)
			}
			for _, i := range numbers() {
				checkBorder(t, kind, n, i)
			}
		}
		for n := 1; n <= 1024; n++ {
			for _, i := range []int{math.MinInt, -2*n + 1, -n, -1, 0, n - 1, n, 2*n - 2, math.MaxInt} {
				checkBorder(t, kind, n, i)
			}
		}
	}
}

func TestP5_5NoBorder(t *testing.T) {
	for _, i := range numbers() {
		for _, kind := range wrongKinds() {
			for _, n := range []int{1, 7, 1024, 0, 1025, -1} { // of a wrong n, too: the kind is asked first
				if got, e := plane.Border(kind, n, i); got != 0 || e != api.ErrPlaneBorder {
					t.Fatalf("Border(%d, %d, %d): %d, %d", kind, n, i, got, e)
				}
			}
		}
		for _, kind := range kinds() {
			for _, n := range []int{0, -1, -1024, 1025, 65536, math.MinInt, math.MaxInt} {
				if got, e := plane.Border(kind, n, i); got != 0 || e != api.ErrPlaneSize {
					t.Fatalf("Border(%d, %d, %d): %d, %d", kind, n, i, got, e)
				}
			}
		}
	}
}

func checkExtend(t *testing.T, p api.Plane, kind, left, top, right, bottom int) {
	t.Helper()
	got, e := plane.Extend(p, kind, left, top, right, bottom)
	checkPlane(t, "Extend", got, e, told(left+p.W+right, top+p.H+bottom, func(x, y int) uint32 {
		return at(p, toldBorder(kind, p.W, x-left), toldBorder(kind, p.H, y-top))
	}))
}

func TestP5_6Extend(t *testing.T) {
	for _, p := range smallPlanes() {
		for _, kind := range kinds() {
			for _, by := range [][4]int{{0, 0, 0, 0}, {1, 0, 0, 0}, {0, 1, 0, 0}, {0, 0, 1, 0}, {0, 0, 0, 1}, {1, 2, 3, 4}, {9, 8, 7, 6}, {20, 0, 0, 30}, {0, 21, 19, 0}} {
				checkExtend(t, p, kind, by[0], by[1], by[2], by[3])
			}
		}
	}
	for _, z := range greatSizes() {
		for _, kind := range kinds() {
			checkExtend(t, numbered(z[0], z[1]), kind, 0, 0, 0, 0)
		}
	}
}

// Up to the greatest sides and areas, and one more.
func TestP5_6ExtendUpToTheLimits(t *testing.T) {
	p := numbered(2, 3)
	for _, kind := range kinds() {
		for _, by := range [][4]int{{1022, 0, 0, 0}, {0, 0, 1022, 0}, {511, 0, 511, 61}, {0, 1021, 0, 0}, {0, 0, 0, 1021}, {31, 500, 31, 521}, {100, 53, 154, 200}} {
			checkExtend(t, p, kind, by[0], by[1], by[2], by[3])
		}
		for _, by := range [][4]int{{1023, 0, 0, 0}, {0, 0, 1023, 0}, {511, 0, 512, 0}, {0, 1022, 0, 0}, {0, 0, 0, 1022}, {0, 511, 0, 511}, {511, 0, 511, 62}, {511, 62, 511, 0}, {31, 500, 32, 521}, {100, 53, 155, 200}, {100, 54, 154, 200}, {1022, 1021, 0, 0}, {1024, 0, 0, 0}, {1025, 0, 0, 0}} {
			got, e := plane.Extend(p, kind, by[0], by[1], by[2], by[3])
			checkNone(t, "Extend", got, e, api.ErrPlaneSize)
		}
	}
	full := numbered(256, 256)
	for i := range 4 {
		by := [4]int{}
		by[i] = 1
		got, e := plane.Extend(full, api.Clamp, by[0], by[1], by[2], by[3])
		checkNone(t, "Extend", got, e, api.ErrPlaneSize)
	}
}

// Too great, each by itself or together: also where a sum of them would go round to a number that New takes.
func TestP5_6ExtendByTooMuch(t *testing.T) {
	p := numbered(2, 3)
	for _, kind := range kinds() {
		for _, n := range []int{1023, 1 << 20, math.MaxInt32, 1 << 32, 1 << 62, math.MaxInt - 5, math.MaxInt - 2, math.MaxInt} {
			for _, m := range []int{0, 1, 7, n, math.MaxInt - n + 1, math.MaxInt} {
				for _, by := range [][4]int{{n, 0, m, 0}, {m, 0, n, 0}, {0, n, 0, m}, {0, m, 0, n}, {n, n, m, m}, {m, n, m, n}} {
					if by[0] < 0 || by[1] < 0 || by[2] < 0 || by[3] < 0 {
						continue
					}
					got, e := plane.Extend(p, kind, by[0], by[1], by[2], by[3])
					checkNone(t, "Extend", got, e, api.ErrPlaneSize)
				}
			}
		}
	}
}

func TestP5_6ErrorsInTheirOrder(t *testing.T) {
	p := numbered(2, 3)
	for _, below := range []int{-1, -2, -1024, math.MinInt} {
		for i := range 4 {
			for _, other := range []int{0, 1, 5000, math.MaxInt} {
				by := [4]int{other, other, other, other}
				by[i] = below
				for _, kind := range kinds() {
					got, e := plane.Extend(p, kind, by[0], by[1], by[2], by[3])
					checkNone(t, "Extend", got, e, api.ErrPlaneRect)
				}
				for _, kind := range wrongKinds() {
					got, e := plane.Extend(p, kind, by[0], by[1], by[2], by[3])
					checkNone(t, "Extend", got, e, api.ErrPlaneBorder)
				}
			}
		}
	}
	for _, kind := range wrongKinds() {
		got, e := plane.Extend(p, kind, 0, 0, 0, 0)
		checkNone(t, "Extend", got, e, api.ErrPlaneBorder)
		got, e = plane.Extend(p, kind, 2000, 0, 0, 0)
		checkNone(t, "Extend", got, e, api.ErrPlaneBorder)
	}
}
