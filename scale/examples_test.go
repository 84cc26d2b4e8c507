package scale_test

import (
	"testing"

	"halide/api"
	"halide/scale"
)

// The chapter's section 'Examples', and its table of errors.

func TestErrorNumber(t *testing.T) {
	if api.ErrScaleSize != 100 {
		t.Errorf("ErrScaleSize: %d", api.ErrScaleSize)
	}
}

func TestP10_1Examples(t *testing.T) {
	for _, c := range []struct {
		l        []uint32
		kind, to int
		want     []uint32
	}{
		{[]uint32{0, one}, api.Tent, 4, []uint32{0, quarter, 0x3F400000, one}},
		{[]uint32{one, two, four}, api.Box, 2, []uint32{one, three}},
		{[]uint32{0xFF800001}, api.Box, 2, []uint32{made, made}},
		{[]uint32{one, infinity}, api.Tent, 2, []uint32{one, infinity}},
	} {
		got, e := scale.Row(c.l, c.kind, c.to)
		checkRow(t, "Row", got, e, c.want)
	}
	if l, e := scale.Row(nil, api.Box, 1); len(l) != 0 || e != api.ErrScaleSize {
		t.Errorf("Row of none: %v, %d", l, e)
	}
}

func TestP10_2Examples(t *testing.T) {
	got, e := scale.Plane(planeOf(2, 2, 0, one, two, three), api.Box, 1, 1)
	checkPlane(t, "Plane", got, e, planeOf(1, 1, 0x3FC00000))
}

func TestP10_4Examples(t *testing.T) {
	checkNeed(t, api.Tent, 2, 4, 0, 1, 0, 1)
	checkNeed(t, api.Tent, 2, 4, 0, 2, 0, 2)
}
