package rank_test

import (
	"fmt"
	"math"
	"testing"

	"halide/api"
	"halide/rank"
)

// checkRefused: of the calls that take a rank; At and Part at a place that is right, and at one that isn't.
func checkRefused(t *testing.T, p api.Plane, border, w, h, k int, want api.Errno) {
	t.Helper()
	what := fmt.Sprintf("of %d by %d, %d, %d, %d, %d", p.W, p.H, border, w, h, k)
	got, e := rank.Plane(p, border, w, h, k)
	checkNone(t, "Plane "+what, got, e, want)
	for _, x := range []int{0, -1, math.MaxInt} {
		if s, e := rank.At(p, border, w, h, k, x, 0); s != 0 || e != want {
			t.Fatalf("At %s, %d, 0: %08X, %d, want %d", what, x, s, e, want)
		}
	}
	for _, r := range []api.Rect{{X1: 1, Y1: 1}, {}, {X0: -1, X1: 1, Y1: 1}, {X1: math.MaxInt, Y1: math.MaxInt}} {
		got, e = rank.Part(p, border, w, h, k, r)
		checkNone(t, fmt.Sprintf("Part %s, %v", what, r), got, e, want)
	}
}

// checkNamesRefused: of the calls that have a rank of their own.
func checkNamesRefused(t *testing.T, p api.Plane, border, w, h int, want api.Errno) {
	t.Helper()
	what := fmt.Sprintf(" of %d by %d, %d, %d, %d", p.W, p.H, border, w, h)
	got, e := rank.Median(p, border, w, h)
	checkNone(t, "Median"+what, got, e, want)
	got, e = rank.Erode(p, border, w, h)
	checkNone(t, "Erode"+what, got, e, want)
	got, e = rank.Dilate(p, border, w, h)
	checkNone(t, "Dilate"+what, got, e, want)
}

// Ahead of all else.
func TestP12_2NoPlane(t *testing.T) {
	for _, c := range refusedPlanes() {
		for _, border := range []int{api.Clamp, api.Wrap, 0, 4} {
			for _, z := range [][2]int{{1, 1}, {3, 2}, {15, 15}, {0, 1}, {1, 16}, {math.MinInt, math.MaxInt}} {
				checkNamesRefused(t, c.p, border, z[0], z[1], c.want)
				for _, k := range []int{0, -1, 225, math.MinInt} {
					checkRefused(t, c.p, border, z[0], z[1], k, c.want)
				}
			}
		}
	}
}

// Ahead of the rank and of the border.
func TestP12_2NoWindow(t *testing.T) {
	p := allOf(3, 2, one)
	check := func(w, h int) {
		t.Helper()
		for _, border := range []int{api.Clamp, api.Mirror, api.Wrap, 0, 4} {
			checkNamesRefused(t, p, border, w, h, api.ErrRankWindow)
			for _, k := range []int{0, 1, 112, -1, 225, math.MinInt, math.MaxInt} {
				checkRefused(t, p, border, w, h, k, api.ErrRankWindow)
			}
		}
	}
	for _, n := range wrongSides() {
		for side := 1; side <= api.MaxWindow; side++ {
			check(n, side)
			check(side, n)
		}
		for _, m := range wrongSides() {
			check(n, m)
		}
	}
}

// Ahead of the border.
func TestP12_2NoRank(t *testing.T) {
	for _, p := range []api.Plane{allOf(1, 1, one), allOf(3, 2, nan), counted(256, 256)} {
		for w := 1; w <= api.MaxWindow; w++ {
			for h := 1; h <= api.MaxWindow; h++ {
				for _, k := range wrongRanks(w * h) {
					for _, border := range []int{api.Clamp, api.Mirror, api.Wrap, 0, 4, math.MinInt} {
						checkRefused(t, p, border, w, h, k, api.ErrRankPlace)
					}
				}
			}
		}
	}
}

// Ahead of the place and of the rectangle; of a window of one place too, which asks for nothing beyond.
func TestP12_2NoBorder(t *testing.T) {
	for _, p := range []api.Plane{allOf(1, 1, one), allOf(3, 2, nan), allOf(1024, 64, one)} {
		for _, border := range wrongBorders() {
			for _, w := range sides() {
				for _, h := range sides() {
					checkNamesRefused(t, p, border, w, h, api.ErrPlaneBorder)
					for _, k := range ranks(w * h) {
						checkRefused(t, p, border, w, h, k, api.ErrPlaneBorder)
					}
				}
			}
		}
	}
}

func TestP12_2NoPlace(t *testing.T) {
	for _, p := range []api.Plane{allOf(1, 1, one), counted(3, 2), counted(1024, 64), counted(64, 1024)} {
		far := []int{-1, -2, 1024, 1 << 31, 1 << 32, 1<<32 + 1, math.MinInt, math.MinInt + 7, math.MaxInt - 7, math.MaxInt}
		var places [][2]int
		for _, n := range far {
			places = append(places, [2]int{n, 0}, [2]int{0, n}, [2]int{n, n})
		}
		for _, z := range append(places, [2]int{p.W, 0}, [2]int{0, p.H}, [2]int{p.W, p.H}, [2]int{-1, 1}, [2]int{-p.W, 1}, [2]int{p.W, -1}) {
			if z[0] >= 0 && z[0] < p.W && z[1] >= 0 && z[1] < p.H {
				continue
			}
			eachWindow(func(border, w, h int) {
				if s, e := rank.At(p, border, w, h, w*h/2, z[0], z[1]); s != 0 || e != api.ErrPlaneRect {
					t.Fatalf("At %v of %d by %d: %08X, %d", z, p.W, p.H, s, e)
				}
			})
		}
	}
}

// isPart: DOC.md's word 'within'.
func isPart(r api.Rect, w, h int) bool {
	return 0 <= r.X0 && r.X0 < r.X1 && r.X1 <= w && 0 <= r.Y0 && r.Y0 < r.Y1 && r.Y1 <= h
}

func TestP12_2NoRect(t *testing.T) {
	p := counted(3, 2)
	numbers := []int{-1, 0, 1, 2, 3, 4, math.MinInt, math.MaxInt}
	for _, x0 := range numbers {
		for _, y0 := range numbers {
			for _, x1 := range numbers {
				for _, y1 := range numbers {
					r := api.Rect{X0: x0, Y0: y0, X1: x1, Y1: y1}
					if isPart(r, p.W, p.H) {
						continue
					}
					for _, border := range borders() {
						got, e := rank.Part(p, border, 3, 2, 3, r)
						checkNone(t, fmt.Sprintf("Part %v", r), got, e, api.ErrPlaneRect)
					}
				}
			}
		}
	}
}
