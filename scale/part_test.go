package scale_test

import (
	"fmt"
	"math"
	"testing"

	"halide/api"
	"halide/plane"
	"halide/scale"
)

// everyRect: all that are within a size.
func everyRect(w, h int) []api.Rect {
	var l []api.Rect
	for y0 := 0; y0 < h; y0++ {
		for y1 := y0 + 1; y1 <= h; y1++ {
			for x0 := 0; x0 < w; x0++ {
				for x1 := x0 + 1; x1 <= w; x1++ {
					l = append(l, rectOf(x0, y0, x1, y1))
				}
			}
		}
	}
	return l
}

// someRects: the whole, its corners, its sides, one place in the middle, a greater piece.
func someRects(w, h int) []api.Rect {
	return []api.Rect{
		rectOf(0, 0, w, h), rectOf(0, 0, 1, 1), rectOf(w-1, 0, w, 1), rectOf(0, h-1, 1, h), rectOf(w-1, h-1, w, h),
		rectOf(0, 0, w, 1), rectOf(0, h-1, w, h), rectOf(0, 0, 1, h), rectOf(w-1, 0, w, h),
		rectOf(w/2, h/2, w/2+1, h/2+1), rectOf(w/3, h/4, w-w/4, h-h/3),
	}
}

func checkPart(t *testing.T, p api.Plane, kind, w, h int, r api.Rect, want api.Plane) {
	t.Helper()
	got, e := scale.Part(p, kind, w, h, r)
	checkPlane(t, fmt.Sprintf("Part of %d by %d, %d, %d, %d, %v", p.W, p.H, kind, w, h, r), got, e, must(plane.Crop(want, r)))
}

func TestP10_3EveryRect(t *testing.T) {
	for _, kind := range kinds() {
		for _, b := range []bring{{2, 2, 5, 3}, {6, 7, 3, 4}, {5, 4, 5, 4}, {15, 3, 1, 6}, {1, 9, 4, 3}} {
			for _, p := range somePlanes(b.fromW, b.fromH) {
				whole := planeTold(p, kind, b.w, b.h)
				for _, r := range everyRect(b.w, b.h) {
					checkPart(t, p, kind, b.w, b.h, r, whole)
				}
			}
		}
	}
}

func TestP10_3SomeRects(t *testing.T) {
	for _, kind := range kinds() {
		for _, b := range append(someBrings(), bring{64, 1024, 949, 69}, bring{1024, 64, 69, 949}, bring{200, 150, 97, 211}) {
			next := chance(uint64(b.w))
			p := filled(b.fromW, b.fromH, func() uint32 { return near(next) })
			whole := must(scale.Plane(p, kind, b.w, b.h))
			for _, r := range someRects(b.w, b.h) {
				checkPart(t, p, kind, b.w, b.h, r, whole)
			}
		}
	}
}

// Against the chapter's words alone.
func TestP10_3Told(t *testing.T) {
	next := chance(5)
	p := filled(20, 13, func() uint32 { return near(next) })
	for _, kind := range kinds() {
		for _, r := range someRects(9, 31) {
			got, e := scale.Part(p, kind, 9, 31, r)
			checkPlane(t, "Part", got, e, partTold(p, kind, 9, 31, r))
		}
	}
}

// Without a place, or not within the new size.
func TestP10_3NoRect(t *testing.T) {
	const w, h = 5, 7
	p := allOf(8, 3, one)
	for _, kind := range kinds() {
		for _, r := range []api.Rect{
			{}, rectOf(0, 0, 0, 1), rectOf(0, 0, 1, 0), rectOf(2, 2, 2, 3), rectOf(2, 2, 3, 2), rectOf(3, 0, 2, 1), rectOf(0, 3, 1, 2), rectOf(w, h, w, h),
			rectOf(-1, 0, 2, 2), rectOf(0, -1, 2, 2), rectOf(0, 0, w+1, 1), rectOf(0, 0, 1, h+1), rectOf(w, 0, w+1, 1), rectOf(0, h, 1, h+1), rectOf(0, 0, 8, 3), rectOf(-3, -3, -1, -1),
			rectOf(math.MinInt, 0, 1, 1), rectOf(0, math.MinInt, 1, 1), rectOf(0, 0, math.MaxInt, 1), rectOf(0, 0, 1, math.MaxInt), rectOf(math.MinInt, math.MinInt, math.MaxInt, math.MaxInt), rectOf(math.MaxInt, math.MaxInt, math.MinInt, math.MinInt),
		} {
			got, e := scale.Part(p, kind, w, h, r)
			checkNone(t, fmt.Sprintf("Part %v", r), got, e, api.ErrPlaneRect)
		}
		for _, r := range []api.Rect{rectOf(0, 0, w, h), rectOf(0, 0, w, 1), rectOf(0, 0, 1, h), rectOf(w-1, h-1, w, h)} {
			if _, e := scale.Part(p, kind, w, h, r); e != api.OK {
				t.Fatalf("Part %v: %d", r, e)
			}
		}
	}
}
