package picture_test

import (
	"testing"

	"halide/api"
	"halide/picture"
)

// A call that answers a picture, and no error but Check's of a picture of planes that may be.
type call struct {
	name string
	do   func(p api.Picture) (api.Picture, api.Errno)
}

func same(s uint32) uint32 { return s }

// calls of one picture; with numbers that are right, and with wrong ones: Check's error comes ahead of theirs.
func calls() []call {
	return []call{
		{"With", func(p api.Picture) (api.Picture, api.Errno) { return picture.With(p, 0, numbered(2, 3, 0)) }},
		{"With, no plane", func(p api.Picture) (api.Picture, api.Errno) { return picture.With(p, 9, api.Plane{}) }},
		{"Crop", func(p api.Picture) (api.Picture, api.Errno) { return picture.Crop(p, api.Rect{X1: 1, Y1: 1}) }},
		{"Crop, not within", func(p api.Picture) (api.Picture, api.Errno) { return picture.Crop(p, api.Rect{X1: -1}) }},
		{"Convert", func(p api.Picture) (api.Picture, api.Errno) { return picture.Convert(p, p.Space) }},
		{"Convert to Lifted", func(p api.Picture) (api.Picture, api.Errno) { return picture.Convert(p, api.Lifted) }},
		{"Convert to no space", func(p api.Picture) (api.Picture, api.Errno) { return picture.Convert(p, 9) }},
		{"Map", func(p api.Picture) (api.Picture, api.Errno) { return picture.Map(p, -1, same) }},
		{"Map, no plane", func(p api.Picture) (api.Picture, api.Errno) { return picture.Map(p, 9, same) }},
		{"Affine", func(p api.Picture) (api.Picture, api.Errno) { return picture.Affine(p, 0, one, one) }},
		{"Affine, no plane", func(p api.Picture) (api.Picture, api.Errno) { return picture.Affine(p, -2, one, one) }},
		{"Between", func(p api.Picture) (api.Picture, api.Errno) { return picture.Between(p, -1, 0, one) }},
		{"Between, no plane", func(p api.Picture) (api.Picture, api.Errno) { return picture.Between(p, 4, 0, one) }},
		{"Matrix", func(p api.Picture) (api.Picture, api.Errno) { return picture.Matrix(p, [9]uint32{}) }},
	}
}

// callsOfTwo: with a right picture on the one side.
func callsOfTwo(other api.Picture) []call {
	var l []call
	for _, kind := range []int{api.Add, api.Greatest, 0, 6} { // a wrong kind, too: the pictures are asked first
		l = append(l,
			call{"Two, first", func(p api.Picture) (api.Picture, api.Errno) { return picture.Two(kind, p, other) }},
			call{"Two, second", func(p api.Picture) (api.Picture, api.Errno) { return picture.Two(kind, other, p) }})
	}
	return append(l,
		call{"Paste, first", func(p api.Picture) (api.Picture, api.Errno) { return picture.Paste(p, other, 0, 0) }},
		call{"Paste, second", func(p api.Picture) (api.Picture, api.Errno) { return picture.Paste(other, p, 1, -1) }},
		call{"Paste, second, beside", func(p api.Picture) (api.Picture, api.Errno) { return picture.Paste(other, p, 99, 99) }})
}

func TestP8_1Right(t *testing.T) {
	for _, p := range rightPictures() {
		if e := picture.Check(p); e != api.OK {
			t.Fatalf("Check of %d planes in the space %d: %d", len(p.Planes), p.Space, e)
		}
	}
	for _, z := range greatSizes() {
		if e := picture.Check(pictureOf(api.Lifted, 4, z[0], z[1], 1)); e != api.OK {
			t.Fatalf("Check of %v: %d", z, e)
		}
	}
	shared := numbered(2, 3, 0) // planes that lie in one another's memory are planes
	if e := picture.Check(api.Picture{Space: api.RGB, Planes: planesOf(shared, shared, shared)}); e != api.OK {
		t.Fatalf("Check of one plane three times: %d", e)
	}
}

func TestP8_1Refused(t *testing.T) {
	for _, r := range refusedPictures() {
		if e := picture.Check(r.p); e != r.want {
			t.Errorf("%s: %d, want %d", r.name, e, r.want)
		}
	}
}

func TestP8_1EveryCallAnswersItFirst(t *testing.T) {
	all := calls()
	for _, planes := range []int{1, 3} {
		all = append(all, callsOfTwo(pictureOf(api.Plain, planes, 2, 3, 4))...)
	}
	for _, r := range refusedPictures() {
		for _, c := range all {
			got, e := c.do(r.p)
			checkNone(t, c.name+" of "+r.name, got, e, r.want)
		}
		for _, n := range []int{0, -1, 9} {
			if got, e := picture.Plane(r.p, n); e != r.want || got.W != 0 || got.H != 0 || len(got.S) != 0 {
				t.Fatalf("Plane of %s: %v, %d, want %d", r.name, got, e, r.want)
			}
		}
	}
}

// Of two refused pictures the first one's error is told.
func TestP8_1FirstAheadOfSecond(t *testing.T) {
	l := refusedPictures()
	for i, first := range l {
		second := l[(i*7+5)%len(l)]
		got, e := picture.Paste(first.p, second.p, 0, 0)
		checkNone(t, "Paste", got, e, first.want)
		for _, kind := range []int{api.Mul, 6} {
			got, e = picture.Two(kind, first.p, second.p)
			checkNone(t, "Two", got, e, first.want)
		}
	}
}

// With refuses the picture ahead of its plane.
func TestP8_1WithAheadOfItsPlane(t *testing.T) {
	for _, r := range refusedPictures() {
		for _, q := range []api.Plane{{}, {W: 1, H: 1}, numbered(9, 9, 0)} {
			got, e := picture.With(r.p, 0, q)
			checkNone(t, "With of "+r.name, got, e, r.want)
		}
	}
}

// Map's function isn't asked, where there is nothing to be told.
func TestP8_1NothingAsked(t *testing.T) {
	asked := 0
	count := func(s uint32) uint32 { asked++; return s }
	for _, r := range refusedPictures() {
		picture.Map(r.p, -1, count)
	}
	picture.Map(place(api.Plain, 1), 1, count)
	if asked != 0 {
		t.Errorf("asked %d times", asked)
	}
}
