package region_test

import (
	"testing"

	"halide/api"
	"halide/region"
)

func TestExamples(t *testing.T) {
	got, e := region.Of(list(rectOf(0, 0, 2, 2), rectOf(1, 1, 3, 3)))
	checkList(t, "P6.3: Of", got, e, list(rectOf(0, 0, 2, 1), rectOf(0, 1, 3, 2), rectOf(1, 2, 3, 3)))
	if n := count(t, got); n != 7 {
		t.Errorf("P6.4: Count: %d", n)
	}
	got, e = region.Less(list(rectOf(0, 0, 3, 3)), list(rectOf(1, 1, 2, 2)))
	checkList(t, "P6.3: Less", got, e, list(rectOf(0, 0, 3, 1), rectOf(0, 1, 1, 2), rectOf(2, 1, 3, 2), rectOf(0, 2, 3, 3)))
	got, e = region.Of(list(rectOf(0, 0, 1, 1), rectOf(1, 0, 2, 1), rectOf(0, 1, 2, 2)))
	checkList(t, "P6.1: Of", got, e, list(rectOf(0, 0, 2, 2)))
	got, e = region.Grow(list(rectOf(0, 0, 1, 1)), 1, 0, 2, 1)
	checkList(t, "P6.3: Grow", got, e, list(rectOf(-1, 0, 3, 2)))
	got, e = region.Shift(list(rectOf(0, 0, 1, 1)), 8192, 0)
	checkNone(t, "P6.2: Shift", got, e, api.ErrRegionFar)
}

func TestErrorsAndLimits(t *testing.T) {
	if api.ErrRegionMany != 60 || api.ErrRegionFar != 61 || api.MaxRects != 4096 || api.MaxFar != 8192 {
		t.Errorf("%d, %d, %d, %d", api.ErrRegionMany, api.ErrRegionFar, api.MaxRects, api.MaxFar)
	}
}
