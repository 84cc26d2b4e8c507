package mix_test

import (
	"math"
	"slices"
	"testing"

	"halide/api"
)

func kinds() []int { return []int{1, 2, 3, 4, 5, 6} }

// wrongKinds: also such as a shorter number would take for one.
func wrongKinds() []int {
	return []int{0, 7, -1, -6, 8, 9, 255, 256, 257, 262, 1 << 31, 1 << 32, 1<<32 + 1, 1<<32 + 6, -1 << 32, math.MinInt, math.MinInt + 1, math.MaxInt}
}

// pictureOf: of each plane its samples by chance: of edges, of shares, about 1, of all bits.
func pictureOf(space, planes, w, h int, seed uint64) api.Picture {
	p := api.Picture{Space: space}
	for n := range planes {
		next := chance(seed*8 + uint64(n))
		l := api.Plane{W: w, H: h, S: make([]uint32, w*h)}
		for i := range l.S {
			l.S[i] = someSample(next)
		}
		p.Planes = append(p.Planes, l)
	}
	return p
}

func someSample(next func() uint32) uint32 {
	switch next() % 8 {
	case 0, 1:
		return oneOf(edges(), next)
	case 2, 3, 4:
		return share(next)
	case 5, 6:
		return near(next)
	}
	return next()
}

// like: a picture of the form of p, with other samples.
func like(p api.Picture, seed uint64) api.Picture {
	return pictureOf(p.Space, len(p.Planes), p.Planes[0].W, p.Planes[0].H, seed)
}

// place: a picture of one place.
func place(space int, l ...uint32) api.Picture {
	p := api.Picture{Space: space}
	for _, s := range l {
		p.Planes = append(p.Planes, api.Plane{W: 1, H: 1, S: []uint32{s}})
	}
	return p
}

func someSizes() [][2]int {
	return [][2]int{{1, 1}, {1, 5}, {6, 1}, {2, 3}, {3, 2}, {9, 8}, {13, 11}}
}

func greatSizes() [][2]int { return [][2]int{{1024, 64}, {64, 1024}, {256, 256}, {1024, 1}} }

// rightPictures: every space with every number of planes that it may have, of several sizes.
func rightPictures() []api.Picture {
	var l []api.Picture
	for _, z := range someSizes() {
		for space := api.Plain; space <= api.Lifted; space++ {
			for planes := 1; planes <= 4; planes++ {
				if space == api.Plain || planes >= 3 {
					l = append(l, pictureOf(space, planes, z[0], z[1], uint64(10*space+planes)))
				}
			}
		}
	}
	return l
}

// withAlpha: those of four planes.
func withAlpha(l []api.Picture) []api.Picture {
	return slices.DeleteFunc(l, func(p api.Picture) bool { return len(p.Planes) != 4 })
}

// asked: a picture, and picture.Check's error of it.
type asked struct {
	p    api.Picture
	want api.Errno
}

func planesOf(l ...api.Plane) []api.Plane { return l }

func refusedPictures() []asked {
	good := pictureOf(api.Plain, 1, 2, 3, 0).Planes[0]
	wide, long := api.Plane{W: 3, H: 2, S: good.S}, api.Plane{W: 2, H: 4, S: make([]uint32, 8)}
	none, short := api.Plane{W: 0, H: 3, S: good.S}, api.Plane{W: 2, H: 3, S: good.S[:5]}
	area := api.Plane{W: 257, H: 256, S: make([]uint32, 257*256)}
	side := api.Plane{W: 1025, H: 1, S: make([]uint32, 1025)}
	l := []asked{
		{api.Picture{}, api.ErrPictureForm},
		{api.Picture{Space: api.RGB, Planes: planesOf(good)[:0]}, api.ErrPictureForm},
		{api.Picture{Planes: planesOf(good, good, good, good, good)}, api.ErrPictureForm},
		{api.Picture{Planes: planesOf(none, good, good, good, good)}, api.ErrPictureForm},
		{api.Picture{Planes: planesOf(none)}, api.ErrPlaneSize},
		{api.Picture{Planes: planesOf(side)}, api.ErrPlaneSize},
		{api.Picture{Planes: planesOf(area, area, area, area)}, api.ErrPlaneSize},
		{api.Picture{Planes: planesOf(short)}, api.ErrPlaneCount},
		{api.Picture{Space: api.RGB, Planes: planesOf(good, good, good, api.Plane{W: 2, H: 3})}, api.ErrPlaneCount},
		{api.Picture{Space: api.RGB, Planes: planesOf(good, good, good, api.Plane{W: 2, H: 3, S: make([]uint32, 7)})}, api.ErrPlaneCount},
		{api.Picture{Planes: planesOf(good, short, none)}, api.ErrPlaneCount},
		{api.Picture{Space: 5, Planes: planesOf(good, none, short)}, api.ErrPlaneSize},
		{api.Picture{Planes: planesOf(good, wide)}, api.ErrPictureForm},
		{api.Picture{Space: api.RGB, Planes: planesOf(good, good, good, long)}, api.ErrPictureForm},
		{api.Picture{Space: 9, Planes: planesOf(long, good, good, good)}, api.ErrPictureForm},
	}
	for _, space := range []int{-1, 5, 6, 256, 257, 1 << 32, 1<<32 + 1, math.MinInt, math.MinInt + 1, math.MaxInt} {
		l = append(l, asked{pictureOf(space, 3, 2, 3, 0), api.ErrPictureSpace}, asked{pictureOf(space, 4, 2, 3, 0), api.ErrPictureSpace})
	}
	for space := api.RGB; space <= api.Lifted; space++ {
		l = append(l, asked{pictureOf(space, 1, 2, 3, 0), api.ErrPictureSpace}, asked{pictureOf(space, 2, 2, 3, 0), api.ErrPictureSpace})
	}
	return l
}

// allPictures: refused ones and right ones, among these unlike spaces, sizes and numbers of planes.
func allPictures() []asked {
	l := refusedPictures()
	for _, z := range [][2]int{{2, 3}, {3, 2}, {2, 4}, {6, 1}, {1, 3}} {
		for planes := 1; planes <= 4; planes++ {
			l = append(l, asked{pictureOf(api.Plain, planes, z[0], z[1], 1), api.OK})
		}
		for _, space := range []int{api.RGB, api.Lifted} {
			l = append(l, asked{pictureOf(space, 3, z[0], z[1], 2), api.OK}, asked{pictureOf(space, 4, z[0], z[1], 3), api.OK})
		}
	}
	return l
}

func isSameSize(p, q api.Picture) bool {
	return p.Planes[0].W == q.Planes[0].W && p.Planes[0].H == q.Planes[0].H
}

func isSamePlane(p, q api.Plane) bool { return p.W == q.W && p.H == q.H && slices.Equal(p.S, q.S) }

func isSame(p, q api.Picture) bool {
	return p.Space == q.Space && slices.EqualFunc(p.Planes, q.Planes, isSamePlane)
}

func clone(p api.Picture) api.Picture {
	return eachPlace(p, func(n, i int) uint32 { return p.Planes[n].S[i] })
}

func checkSample(t *testing.T, what string, got, want uint32, of ...uint32) {
	t.Helper()
	if got != want {
		t.Fatalf("%s of %08X: %08X, want %08X", what, of, got, want)
	}
}

func checkPicture(t *testing.T, what string, got api.Picture, e api.Errno, want api.Picture) {
	t.Helper()
	if e != api.OK || got.Space != want.Space || len(got.Planes) != len(want.Planes) {
		t.Fatalf("%s: %d, space %d, %d planes, want space %d, %d planes", what, e, got.Space, len(got.Planes), want.Space, len(want.Planes))
	}
	for n, q := range want.Planes {
		l := got.Planes[n]
		if l.W != q.W || l.H != q.H || len(l.S) != len(q.S) {
			t.Fatalf("%s, plane %d: %d by %d with %d samples, want %d by %d", what, n, l.W, l.H, len(l.S), q.W, q.H)
		}
		for i, s := range q.S {
			if l.S[i] != s {
				t.Fatalf("%s, plane %d, sample %d: %08X, want %08X", what, n, i, l.S[i], s)
			}
		}
	}
}

// checkNone: an error, and nothing beside it.
func checkNone(t *testing.T, what string, got api.Picture, e, want api.Errno) {
	t.Helper()
	if e != want || got.Space != 0 || len(got.Planes) != 0 {
		t.Fatalf("%s: error %d, want %d, space %d, %d planes", what, e, want, got.Space, len(got.Planes))
	}
}

// must: of a call that is known to be right.
func must[T any](v T, e api.Errno) T {
	if e != api.OK {
		panic(e)
	}
	return v
}
