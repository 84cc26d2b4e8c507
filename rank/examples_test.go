package rank_test

import (
	"testing"

	"halide/api"
	"halide/rank"
)

// The chapter's section 'Examples', its table of errors, and its limit.

func TestErrorNumbers(t *testing.T) {
	if api.ErrRankWindow != 120 || api.ErrRankPlace != 121 || api.MaxWindow != 15 {
		t.Errorf("ErrRankWindow: %d, ErrRankPlace: %d, MaxWindow: %d", api.ErrRankWindow, api.ErrRankPlace, api.MaxWindow)
	}
}

func exampleRow() api.Plane { return rowOf(one, minusZero, nan, two, 0) }

func TestP12_3Examples(t *testing.T) {
	got, e := rank.Median(exampleRow(), api.Clamp, 3, 1)
	checkPlane(t, "Median", got, e, rowOf(one, one, two, two, 0))
	got, e = rank.Erode(exampleRow(), api.Clamp, 3, 1)
	checkPlane(t, "Erode", got, e, rowOf(minusZero, minusZero, minusZero, 0, 0))
	got, e = rank.Dilate(exampleRow(), api.Clamp, 3, 1)
	checkPlane(t, "Dilate", got, e, rowOf(one, nan, nan, nan, two))
}

func TestP12_2Examples(t *testing.T) {
	got, e := rank.Plane(exampleRow(), api.Clamp, 2, 1, 0)
	checkPlane(t, "Plane", got, e, rowOf(one, minusZero, minusZero, two, 0))
	got, e = rank.Plane(exampleRow(), api.Clamp, 2, 1, 2)
	checkNone(t, "Plane", got, e, api.ErrRankPlace)
	got, e = rank.Plane(exampleRow(), api.Clamp, 16, 1, 0)
	checkNone(t, "Plane", got, e, api.ErrRankWindow)
}
