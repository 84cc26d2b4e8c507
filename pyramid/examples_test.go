package pyramid_test

import (
	"testing"

	"halide/api"
	"halide/pyramid"
)

// The chapter's section 'Examples', its table of errors, and its limit.

func TestErrorNumbers(t *testing.T) {
	if api.ErrPyramidLevels != 140 || api.ErrPyramidForm != 141 || api.MaxLevels != 12 {
		t.Errorf("ErrPyramidLevels: %d, ErrPyramidForm: %d, MaxLevels: %d", api.ErrPyramidLevels, api.ErrPyramidForm, api.MaxLevels)
	}
}

func TestP14_2Example(t *testing.T) {
	got, e := pyramid.Reduce(rowOf(one, two, four, eight))
	checkPlane(t, "Reduce", got, e, rowOf(0x3FB80000, 0x40920000))
}

func TestP14_3Example(t *testing.T) {
	got, e := pyramid.Expand(rowOf(one, three), 4, 1)
	checkPlane(t, "Expand", got, e, rowOf(0x3FA00000, 0x40000000, 0x40300000, 0x40400000))
}

func TestP14_4Example(t *testing.T) {
	coarse, fine, e := pyramid.Split(rowOf(0xFFFFFFFF))
	checkPlane(t, "Split, the coarse plane", coarse, e, rowOf(made))
	checkPlane(t, "Split, the fine plane", fine, e, rowOf(4194304))
}
