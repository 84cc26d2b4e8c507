package picture_test

import (
	"testing"

	"halide/api"
	"halide/picture"
)

// The chapter's section 'Examples', and its table of errors.

func TestExamplesOfOnePlace(t *testing.T) {
	for _, space := range spaces() {
		p := place(space, one, two, four)
		got, e := picture.Affine(p, -1, two, one)
		checkPicture(t, "Affine", got, e, place(space, sampleOf(3), sampleOf(5), sampleOf(9)))
		got, e = picture.Matrix(p, [9]uint32{0, 0, one, 0, one, 0, one, 0, 0})
		checkPicture(t, "Matrix", got, e, place(space, four, two, one))
		got, e = picture.Two(api.Sub, p, p)
		checkPicture(t, "Two", got, e, place(space, plusZero, plusZero, plusZero))
		got, e = picture.Between(p, -1, sampleOf(1.5), sampleOf(3))
		checkPicture(t, "Between", got, e, place(space, sampleOf(1.5), two, sampleOf(3)))
	}
}

func TestExamplesOfNew(t *testing.T) {
	got, e := picture.New(api.RGB, 2, 1, 1, 0)
	checkNone(t, "New", got, e, api.ErrPictureSpace)
	got, e = picture.New(api.Plain, 5, 1, 1, 0)
	checkNone(t, "New", got, e, api.ErrPictureForm)
}

func TestErrors(t *testing.T) {
	p := row(api.RGB, []uint32{1, 2}, []uint32{3, 4}, []uint32{5, 6})
	got, e := picture.With(p, 0, numbered(3, 1, 0))
	checkNone(t, "planes that don't fit one another", got, e, 80)
	got, e = picture.Convert(p, api.Lifted+1)
	checkNone(t, "no such space", got, e, 81)
	got, e = picture.Paste(p, inSpace(p, api.YCC), 0, 0)
	checkNone(t, "another space", got, e, 81)
	got, e = picture.Affine(p, 3, one, one)
	checkNone(t, "no such plane", got, e, 82)
	got, e = picture.Two(api.Greatest+1, p, p)
	checkNone(t, "no such thing to do", got, e, 83)
	if api.MaxPlanes != 4 {
		t.Errorf("MaxPlanes: %d", api.MaxPlanes)
	}
}
