package pyramid_test

import (
	"fmt"
	"math"
	"testing"

	"halide/api"
	"halide/pyramid"
)

func checkExpandTold(t *testing.T, p api.Plane, w, h int) {
	t.Helper()
	got, e := pyramid.Expand(p, w, h)
	checkPlane(t, fmt.Sprintf("Expand of %d by %d to %d by %d", p.W, p.H, w, h), got, e, expandTold(p, w, h))
}

func TestP14_3Told(t *testing.T) {
	for _, z := range someSizes() {
		for _, p := range somePlanes(z[0], z[1]) {
			checkExpandTold(t, p, 2*p.W, 2*p.H)
			checkExpandTold(t, p, 2*p.W-1, 2*p.H)
			checkExpandTold(t, p, 2*p.W, 2*p.H-1)
			checkExpandTold(t, p, 2*p.W-1, 2*p.H-1)
		}
	}
}

func TestP14_3GreatSizes(t *testing.T) {
	for _, z := range greatSizes() {
		next := chance(uint64(z[1]))
		p := filled(halfTold(z[0]), halfTold(z[1]), func() uint32 { return near(next) })
		checkExpandTold(t, p, z[0], z[1])
	}
}

// A line's ends are clamped: 8, 16, 24 ..
func TestP14_3Edges(t *testing.T) {
	for _, c := range []struct{ line, want []uint32 }{
		{whole(8), whole(8, 8)},
		{whole(8, 16), whole(9, 12, 15, 16)},
		{whole(8, 0, 0), whole(7, 4, 1, 0, 0, 0)},
		{whole(0, 8, 0), whole(1, 4, 6, 4, 1, 0)},
		{whole(0, 0, 8), whole(0, 0, 1, 4, 7, 8)},
	} {
		n := len(c.want)
		for _, want := range [][]uint32{c.want, c.want[:n-1]} {
			got, e := pyramid.Expand(rowOf(c.line...), len(want), 1)
			checkPlane(t, "a row", got, e, rowOf(want...))
			got, e = pyramid.Expand(columnOf(c.line...), 1, len(want))
			checkPlane(t, "a column", got, e, columnOf(want...))
		}
	}
}

// What stands between is rounded to samples, of the rows first: the middle of two columns and two rows is the mean of the rows' means.
func TestP14_3BetweenAreSamples(t *testing.T) {
	for _, c := range []struct {
		p    api.Plane
		want uint32
	}{
		{planeOf(2, 2, one, one+1, one+1, one+1), one},     // 1 and the next one; of all four at once: the next one
		{planeOf(2, 2, one, one+1, one+2, one+2), one + 1}, // 1 and the second next one; columns first: the second next one
		{planeOf(2, 2, one, one+2, one+1, one+2), one + 2}, // the next one and (a tie) the second next one: a tie
		{planeOf(2, 2, leastSmall, 0, leastSmall, 0), 0},   // nothing is left of the rows
		{planeOf(2, 2, leastSmall, 2, leastSmall, 0), leastSmall},
		{planeOf(2, 2, leastSmall|sign, 0, leastSmall|sign, 0), minusZero},
		{planeOf(2, 2, infinity, infinity, infinity|sign, one), made},
	} {
		for _, z := range [][2]int{{3, 3}, {4, 3}, {3, 4}, {4, 4}} {
			got, e := pyramid.Expand(c.p, z[0], z[1])
			if e != api.OK || at(got, 1, 1) != c.want {
				t.Errorf("Expand(%08X, %d, %d): %08X, %d, want %08X in the middle", c.p.S, z[0], z[1], got.S, e, c.want)
			}
		}
	}
}

// fits: whether Expand takes this.
func fits(p api.Plane, w, h int) bool {
	isSize := w >= 1 && w <= api.MaxSide && h >= 1 && h <= api.MaxSide && w*h <= api.MaxArea
	return isSize && halfTold(w) == p.W && halfTold(h) == p.H
}

func checkForm(t *testing.T, p api.Plane, w, h int) {
	t.Helper()
	got, e := pyramid.Expand(p, w, h)
	what := fmt.Sprintf("Expand of %d by %d to %d by %d", p.W, p.H, w, h)
	if !fits(p, w, h) {
		checkNone(t, what, got, e, api.ErrPyramidForm)
	} else if e != api.OK || got.W != w || got.H != h || len(got.S) != w*h {
		t.Fatalf("%s: %d by %d with %d samples, %d", what, got.W, got.H, len(got.S), e)
	}
}

func TestP14_3Form(t *testing.T) {
	for pw := 1; pw <= 4; pw++ {
		for ph := 1; ph <= 4; ph++ {
			for w := -3; w <= 11; w++ {
				for h := -3; h <= 11; h++ {
					checkForm(t, allOf(pw, ph, one), w, h)
				}
			}
		}
	}
}

func TestP14_3NoSize(t *testing.T) {
	for _, p := range []api.Plane{allOf(1, 1, one), allOf(3, 2, one), allOf(1024, 64, one), allOf(1, 1024, one), allOf(513, 1, one)} {
		for _, z := range wrongSizes() {
			got, e := pyramid.Expand(p, z[0], z[1])
			checkNone(t, "Expand", got, e, api.ErrPyramidForm)
		}
		for _, n := range []int{math.MaxInt, math.MaxInt - 1, math.MinInt, math.MinInt + 1, 1 << 62, 1<<32 + 2*p.W, -2 * p.W} {
			for _, m := range []int{2 * p.W, 2 * p.H, n} {
				checkForm(t, p, n, m)
				checkForm(t, p, m, n)
			}
		}
	}
}

// Halves that fit, of a size that is one, or one too great.
func TestP14_3Limits(t *testing.T) {
	for _, c := range []struct{ pw, ph, w, h int }{
		{512, 1, 1024, 1}, {512, 1, 1024, 2}, {512, 1, 1023, 2}, {1, 512, 2, 1024}, {512, 32, 1024, 64}, {512, 32, 1023, 64}, {32, 512, 64, 1024}, {128, 128, 256, 256}, {129, 128, 257, 255},
		{513, 1, 1025, 1}, {513, 1, 1026, 1}, {1, 513, 1, 1025}, {512, 33, 1024, 65}, {512, 33, 1023, 65}, {33, 512, 65, 1024}, {129, 128, 257, 256}, {129, 128, 258, 255}, {1024, 1, 2047, 1}, {1024, 64, 2048, 128}, {256, 256, 511, 511},
	} {
		checkForm(t, allOf(c.pw, c.ph, one), c.w, c.h)
	}
}

// Ahead of the size.
func TestP14_3NoPlane(t *testing.T) {
	for _, c := range refusedPlanes() {
		for _, z := range [][2]int{{1, 1}, {2, 2}, {2 * c.p.W, 2 * c.p.H}, {0, 0}, {-1, 5}, {4, 6}} {
			got, e := pyramid.Expand(c.p, z[0], z[1])
			checkNone(t, "Expand", got, e, c.want)
		}
	}
}
