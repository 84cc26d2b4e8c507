package scale_test

import (
	"fmt"
	"math"
	"testing"

	"halide/api"
	"halide/scale"
)

func checkPlaneTold(t *testing.T, p api.Plane, kind, w, h int) {
	t.Helper()
	got, e := scale.Plane(p, kind, w, h)
	checkPlane(t, fmt.Sprintf("Plane of %d by %d, %d, %d, %d", p.W, p.H, kind, w, h), got, e, planeTold(p, kind, w, h))
}

// bring: a size, and the one that it is brought to.
type bring struct{ fromW, fromH, w, h int }

// someBrings: greater, smaller, one way each, of its own size, of one row and of one column.
func someBrings() []bring {
	return []bring{
		{1, 1, 1, 1}, {1, 1, 4, 3}, {2, 2, 1, 1}, {2, 3, 5, 7}, {7, 5, 3, 2}, {6, 4, 9, 2}, {4, 9, 3, 11}, {5, 4, 5, 4}, {5, 4, 5, 8}, {5, 4, 3, 4},
		{9, 1, 4, 1}, {9, 1, 20, 1}, {9, 1, 9, 6}, {9, 1, 12, 3}, {1, 9, 1, 4}, {1, 9, 1, 20}, {1, 9, 6, 9}, {1, 9, 3, 12}, {8, 7, 1, 1}, {8, 7, 1, 7}, {8, 7, 8, 1}, {15, 15, 1, 1}, {30, 15, 2, 1}, {13, 11, 12, 10},
	}
}

func TestP10_2Told(t *testing.T) {
	for _, kind := range kinds() {
		for _, b := range someBrings() {
			for _, p := range somePlanes(b.fromW, b.fromH) {
				checkPlaneTold(t, p, kind, b.w, b.h)
			}
		}
	}
}

// At the limits; of the first ones what stands between rows and columns is more than a plane holds.
func TestP10_2GreatSizes(t *testing.T) {
	for _, kind := range kinds() {
		for _, b := range []bring{{64, 1024, 949, 69}, {1, 1024, 949, 69}, {1024, 64, 69, 949}, {300, 200, 100, 400}, {256, 256, 256, 256}, {1, 1, 1024, 64}, {1, 1, 64, 1024}, {1024, 64, 69, 5}, {1024, 1, 1024, 64}, {1020, 15, 68, 1}} {
			next := chance(uint64(b.w))
			checkPlaneTold(t, filled(b.fromW, b.fromH, func() uint32 { return near(next) }), kind, b.w, b.h)
		}
	}
}

// What stands between is rounded to samples, of the rows first.
func TestP10_2BetweenAreSamples(t *testing.T) {
	for _, c := range []struct {
		p    api.Plane
		want uint32
	}{
		{planeOf(2, 2, one, one+1, one+1, one+1), one},     // 1 and the next one; of all four at once: the next one
		{planeOf(2, 2, one, one+1, one+2, one+2), one + 1}, // 1 and the second next one; columns first: the second next one
		{planeOf(2, 2, one, one+2, one+1, one+2), one + 2}, // the next one and (a tie) the second next one: a tie
		{planeOf(2, 2, leastSmall, 0, leastSmall, 0), 0},   // nothing is left of the rows
		{planeOf(2, 2, leastSmall, leastSmall, 0, 0), 0},   // a tie, behind the rows
		{planeOf(2, 2, leastSmall, 2, leastSmall, 0), leastSmall},
		{planeOf(2, 2, leastSmall|sign, 0, leastSmall|sign, 0), minusZero},
		{planeOf(2, 2, infinity, infinity, infinity|sign, one), made},
	} {
		got, e := scale.Plane(c.p, api.Box, 1, 1)
		checkPlane(t, "Plane", got, e, planeOf(1, 1, c.want))
	}
}

type refused struct {
	p    api.Plane
	want api.Errno
}

func refusedPlanes() []refused {
	l := []refused{{api.Plane{}, api.ErrPlaneSize}}
	for _, z := range wrongSizes() {
		l = append(l, refused{api.Plane{W: z[0], H: z[1]}, api.ErrPlaneSize}, refused{api.Plane{W: z[0], H: z[1], S: make([]uint32, 6)}, api.ErrPlaneSize})
	}
	for _, z := range [][2]int{{1, 1}, {2, 3}, {1024, 64}, {31, 2}} {
		for _, n := range []int{0, z[0]*z[1] - 1, z[0]*z[1] + 1} {
			l = append(l, refused{api.Plane{W: z[0], H: z[1], S: make([]uint32, n, n+9)}, api.ErrPlaneCount})
		}
	}
	return l
}

func wrongSizes() [][2]int {
	l := [][2]int{{0, 0}, {-1, -1}, {1024, 65}, {65, 1024}, {257, 256}, {256, 257}, {1024, 1024}, {1025, 1025}, {-2, -3}, {1 << 32, 1 << 32}, {math.MaxInt, math.MaxInt}, {math.MinInt, math.MinInt}}
	for _, n := range wrongSides() {
		l = append(l, [2]int{n, 1}, [2]int{1, n}, [2]int{n, 3}, [2]int{3, n})
	}
	return l
}

func checkPlaneRefused(t *testing.T, p api.Plane, kind, w, h int, want api.Errno) {
	t.Helper()
	what := fmt.Sprintf("%d by %d, %d, %d, %d", p.W, p.H, kind, w, h)
	got, e := scale.Plane(p, kind, w, h)
	checkNone(t, "Plane of "+what, got, e, want)
	for _, r := range []api.Rect{rectOf(0, 0, 1, 1), {}, rectOf(-1, 0, 9, 9), rectOf(0, 0, w, h)} { // Part tells Plane's errors ahead of its own
		got, e = scale.Part(p, kind, w, h, r)
		checkNone(t, "Part of "+what, got, e, want)
	}
}

// Ahead of all else.
func TestP10_2NoPlane(t *testing.T) {
	for _, c := range refusedPlanes() {
		for _, kind := range []int{api.Box, api.Tent, api.Cubic, 0, 4} {
			for _, z := range [][2]int{{1, 1}, {4, 5}, {0, 1}, {1, 1025}, {1024, 65}} {
				checkPlaneRefused(t, c.p, kind, z[0], z[1], c.want)
			}
		}
	}
}

func TestP10_2NoSize(t *testing.T) {
	for _, z := range wrongSizes() {
		for _, kind := range append(kinds(), wrongKinds()...) { // ahead of the kind
			for _, p := range []api.Plane{allOf(1, 1, one), allOf(3, 2, one), allOf(31, 31, one), allOf(1024, 64, one)} { // and of too many taps
				checkPlaneRefused(t, p, kind, z[0], z[1], api.ErrScaleSize)
			}
		}
	}
}

func TestP10_2NoKind(t *testing.T) {
	for _, kind := range wrongKinds() {
		for _, z := range [][2]int{{1, 1}, {3, 2}, {31, 2}, {1024, 64}, {2, 31}, {1, 1024}} { // ahead of too many taps
			checkPlaneRefused(t, allOf(31, 32, one), kind, z[0], z[1], api.ErrKernelKind)
			checkPlaneRefused(t, allOf(1, 1, one), kind, z[0], z[1], api.ErrKernelKind)
		}
	}
}

// By columns, by rows, and by both; and one fewer.
func TestP10_2TooManyTaps(t *testing.T) {
	for _, kind := range kinds() {
		p := allOf(31, 46, one)
		for _, z := range [][2]int{{2, 4}, {3, 3}, {2, 3}, {1, 1}, {1, 46}, {31, 1}, {2, 1024}, {21, 3}} {
			checkPlaneRefused(t, p, kind, z[0], z[1], api.ErrKernelTaps)
		}
		checkPlaneRefused(t, allOf(16, 1, one), kind, 1, 1, api.ErrKernelTaps)
		checkPlaneRefused(t, allOf(1, 16, one), kind, 1, 1, api.ErrKernelTaps)
		checkPlaneTold(t, p, kind, 3, 4)
		checkPlaneTold(t, allOf(30, 45, one), kind, 2, 3)
	}
}
