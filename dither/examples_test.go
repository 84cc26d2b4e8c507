package dither_test

import (
	"slices"
	"testing"

	"halide/api"
	"halide/dither"
)

// The chapter's section 'Examples', and its table of errors.

func TestErrorNumbers(t *testing.T) {
	if api.ErrDitherLevels != 130 || api.ErrDitherSide != 131 {
		t.Errorf("ErrDitherLevels: %d, ErrDitherSide: %d", api.ErrDitherLevels, api.ErrDitherSide)
	}
}

func TestP13_1Examples(t *testing.T) {
	if s, e := dither.Level(3, 1); s != half || e != api.OK {
		t.Errorf("Level(3, 1): %08X, %d", s, e)
	}
	if u, e := dither.Unit(4, 1); u != 5592405 || e != api.OK {
		t.Errorf("Unit(4, 1): %d, %d", u, e)
	}
	if u := dither.Units(half); u != 8388608 {
		t.Errorf("Units(0.5): %d", u)
	}
}

func TestP13_2Example(t *testing.T) {
	if k, e := dither.Nearest(2, 8388608); k != 0 || e != api.OK {
		t.Errorf("Nearest(2, 8388608): %d, %d", k, e)
	}
}

func TestP13_3Example(t *testing.T) {
	l, e := dither.Table(2)
	if e != api.OK || len(l) != 2 || !slices.Equal(l[0], []int{0, 2}) || !slices.Equal(l[1], []int{3, 1}) {
		t.Errorf("Table(2): %v, %d", l, e)
	}
}

func TestP13_4Examples(t *testing.T) {
	got, e := dither.Ordered(rowOf(half), 2, 2, 0, 0)
	checkPlane(t, "at (0, 0)", got, e, rowOf(one))
	got, e = dither.Ordered(rowOf(half), 2, 2, 0, 1)
	checkPlane(t, "at (0, 1)", got, e, rowOf(0))
}

func TestP13_5Example(t *testing.T) {
	got, fallen, e := dither.Diffuse(rowOf(half, half), 2)
	checkPlane(t, "Diffuse", got, e, rowOf(0, one))
	if fallen != 0 {
		t.Errorf("fallen: %d", fallen)
	}
}

func TestP13_6Example(t *testing.T) {
	got := trailOf(rowOf(half, half), 2)
	if want := [][3]int{{8388608, 0, 8388608}, {12058624, 1, -4718592}}; !slices.Equal(got, want) {
		t.Errorf("Trail: %v, want %v", got, want)
	}
}
