package plane_test

import (
	"testing"

	"halide/api"
	"halide/plane"
)

// The chapter's section 'Examples'.

func planeOf(w, h int, s ...uint32) api.Plane { return api.Plane{W: w, H: h, S: s} }

func TestExamplesOfSixSamples(t *testing.T) {
	p := planeOf(2, 3, 1, 2, 3, 4, 5, 6)
	checkPlane(t, "Turn", must(plane.Turn(p, 1)), api.OK, planeOf(3, 2, 5, 3, 1, 6, 4, 2))
	checkPlane(t, "Transpose", must(plane.Transpose(p)), api.OK, planeOf(3, 2, 1, 3, 5, 2, 4, 6))
	checkPlane(t, "Crop", must(plane.Crop(p, api.Rect{X0: 1, Y0: 0, X1: 2, Y1: 2})), api.OK, planeOf(1, 2, 2, 4))
	checkPlane(t, "Paste", must(plane.Paste(p, planeOf(1, 2, 9, 9), 1, -1)), api.OK, planeOf(2, 3, 1, 9, 3, 4, 5, 6))
	checkPlane(t, "Extend", must(plane.Extend(p, api.Mirror, 1, 0, 0, 0)), api.OK, planeOf(3, 3, 2, 1, 2, 4, 3, 4, 6, 5, 6))
}

func TestExamplesOfBorders(t *testing.T) {
	for _, c := range []struct{ kind, i, want int }{{api.Mirror, -1, 1}, {api.Mirror, 5, 1}, {api.Mirror, 6, 0}, {api.Wrap, -1, 3}} {
		if b, e := plane.Border(c.kind, 4, c.i); b != c.want || e != api.OK {
			t.Errorf("Border(%d, 4, %d): %d, %d, want %d", c.kind, c.i, b, e, c.want)
		}
	}
}
