package picture_test

import (
	"math"
	"testing"

	"halide/api"
	"halide/picture"
)

func newTold(space, planes, w, h int, s uint32) api.Picture {
	p := api.Picture{Space: space}
	for range planes {
		q := api.Plane{W: w, H: h}
		for range w * h {
			q.S = append(q.S, s)
		}
		p.Planes = append(p.Planes, q)
	}
	return p
}

func TestP8_2New(t *testing.T) {
	l := edges()
	for i, z := range append(sizes(), greatSizes()...) {
		for _, space := range spaces() {
			for planes := 1; planes <= 4; planes++ {
				s := l[(i*20+space*4+planes)%len(l)]
				got, e := picture.New(space, planes, z[0], z[1], s)
				if space != api.Plain && planes < 3 {
					checkNone(t, "New", got, e, api.ErrPictureSpace)
					continue
				}
				checkPicture(t, "New", got, e, newTold(space, planes, z[0], z[1], s))
			}
		}
	}
	for _, s := range l {
		got, e := picture.New(api.YCC, 3, 2, 2, s)
		checkPicture(t, "New", got, e, newTold(api.YCC, 3, 2, 2, s))
	}
}

func wrongNumbers() []int {
	return []int{0, 5, -1, 6, -4, 257, 1 << 32, 1<<32 + 1, 1<<32 + 3, math.MinInt, math.MaxInt}
}

func wrongSizes() [][2]int {
	return [][2]int{{0, 1}, {1, 0}, {0, 0}, {-1, 1}, {1, -1}, {1025, 1}, {1, 1025}, {257, 256}, {1024, 65}, {1 << 32, 1 << 32}, {math.MaxInt, math.MaxInt}, {math.MinInt, 2}}
}

func TestP8_2NewRefused(t *testing.T) {
	allSpaces := append(spaces(), wrongSpaces()...)
	for _, planes := range wrongNumbers() {
		for _, space := range allSpaces {
			for _, z := range append(wrongSizes(), [2]int{1, 1}) { // a wrong number of planes is told first
				got, e := picture.New(space, planes, z[0], z[1], one)
				checkNone(t, "New, no number of planes", got, e, api.ErrPictureForm)
			}
		}
	}
	for planes := 1; planes <= 4; planes++ {
		for _, space := range allSpaces {
			for _, z := range wrongSizes() { // then a wrong size
				got, e := picture.New(space, planes, z[0], z[1], one)
				checkNone(t, "New, no size", got, e, api.ErrPlaneSize)
			}
		}
		for _, space := range wrongSpaces() {
			got, e := picture.New(space, planes, 3, 2, one)
			checkNone(t, "New, no space", got, e, api.ErrPictureSpace)
		}
	}
}

func TestP8_2Plane(t *testing.T) {
	for _, p := range append(rightPictures(), pictureOf(api.RGB, 4, 256, 256, 3)) {
		for n, q := range p.Planes {
			if got, e := picture.Plane(p, n); e != api.OK || !isSamePlane(got, q) {
				t.Fatalf("Plane %d: %d", n, e)
			}
		}
		for _, n := range append(wrongPlanes(p), -1) {
			if got, e := picture.Plane(p, n); e != api.ErrPicturePlane || got.W != 0 || got.H != 0 || len(got.S) != 0 {
				t.Fatalf("Plane %d of %d: %v, %d", n, len(p.Planes), got, e)
			}
		}
	}
}

func TestP8_2With(t *testing.T) {
	for _, p := range append(rightPictures(), pictureOf(api.RGB, 4, 256, 256, 3)) {
		z := p.Planes[0]
		q := numbered(z.W, z.H, 31)
		for n := range p.Planes {
			want := clone(p)
			want.Planes[n] = q
			got, e := picture.With(p, n, q)
			checkPicture(t, "With", got, e, want)
		}
	}
}

func TestP8_2WithRefused(t *testing.T) {
	wrong := []struct {
		q    api.Plane
		want api.Errno
	}{
		{api.Plane{}, api.ErrPlaneSize},
		{api.Plane{W: 2, H: 1025, S: make([]uint32, 2050)}, api.ErrPlaneSize},
		{api.Plane{W: 2, H: 3, S: make([]uint32, 5)}, api.ErrPlaneCount},
		{api.Plane{W: 2, H: 3, S: make([]uint32, 7)}, api.ErrPlaneCount},
		{api.Plane{W: 9, H: 9, S: make([]uint32, 7)}, api.ErrPlaneCount}, // ahead of its size
		{numbered(3, 2, 0), api.ErrPictureForm},
		{numbered(2, 2, 0), api.ErrPictureForm},
		{numbered(2, 4, 0), api.ErrPictureForm},
		{numbered(1, 3, 0), api.ErrPictureForm},
		{numbered(3, 3, 0), api.ErrPictureForm},
		{numbered(6, 1, 0), api.ErrPictureForm},
	}
	for _, planes := range []int{1, 2, 3, 4} {
		p := pictureOf(api.Plain, planes, 2, 3, 1)
		for _, c := range wrong {
			for n := range planes {
				got, e := picture.With(p, n, c.q)
				checkNone(t, "With", got, e, c.want)
			}
			for _, n := range append(wrongPlanes(p), -1) { // the number is asked first
				got, e := picture.With(p, n, c.q)
				checkNone(t, "With", got, e, api.ErrPicturePlane)
			}
		}
		for _, n := range append(wrongPlanes(p), -1) {
			got, e := picture.With(p, n, numbered(2, 3, 5))
			checkNone(t, "With", got, e, api.ErrPicturePlane)
		}
	}
}
