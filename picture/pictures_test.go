package picture_test

import (
	"math"
	"slices"
	"testing"

	"halide/api"
)

func spaces() []int { return []int{api.Plain, api.RGB, api.YCC, api.LogRGB, api.Lifted} }

// numbered: a plane of edges first, then of samples that are all unlike, also from those of another start.
func numbered(w, h, start int) api.Plane {
	s := make([]uint32, w*h)
	l := edges()
	for i := range s {
		s[i] = 0x3E000000 + uint32(start)<<20 + uint32(i)*257
		if i < len(l) {
			s[i] = l[(i+start)%len(l)]
		}
	}
	return api.Plane{W: w, H: h, S: s}
}

func pictureOf(space, planes, w, h, start int) api.Picture {
	p := api.Picture{Space: space}
	for i := range planes {
		p.Planes = append(p.Planes, numbered(w, h, start+7*i))
	}
	return p
}

// place: a picture of one place.
func place(space int, l ...uint32) api.Picture {
	p := api.Picture{Space: space}
	for _, s := range l {
		p.Planes = append(p.Planes, api.Plane{W: 1, H: 1, S: []uint32{s}})
	}
	return p
}

// row: a picture of one row, each plane's samples told.
func row(space int, planes ...[]uint32) api.Picture {
	p := api.Picture{Space: space}
	for _, s := range planes {
		p.Planes = append(p.Planes, api.Plane{W: len(s), H: 1, S: s})
	}
	return p
}

func sizes() [][2]int {
	return [][2]int{{1, 1}, {1, 5}, {6, 1}, {2, 3}, {9, 8}, {13, 11}}
}

func greatSizes() [][2]int { return [][2]int{{1024, 64}, {64, 1024}, {256, 256}, {1024, 1}} }

// rightPictures: every space with every number of planes that it may have, of several sizes.
func rightPictures() []api.Picture {
	var l []api.Picture
	for _, z := range sizes() {
		for _, space := range spaces() {
			for planes := 1; planes <= 4; planes++ {
				if space == api.Plain || planes >= 3 {
					l = append(l, pictureOf(space, planes, z[0], z[1], space+planes))
				}
			}
		}
	}
	return l
}

type refused struct {
	name string
	p    api.Picture
	want api.Errno
}

func planesOf(l ...api.Plane) []api.Plane { return l }

// refusedPictures: what P8.1 names, and which error comes first where several would do.
func refusedPictures() []refused {
	good, wide, long := numbered(2, 3, 0), numbered(3, 2, 0), numbered(2, 4, 0)
	size := api.Plane{W: 0, H: 3, S: good.S}
	area := api.Plane{W: 257, H: 256, S: make([]uint32, 257*256)}
	side := api.Plane{W: 1025, H: 1, S: make([]uint32, 1025)}
	short := api.Plane{W: 2, H: 3, S: good.S[:5]}
	excess := api.Plane{W: 2, H: 3, S: numbered(7, 1, 0).S}
	none := api.Plane{W: 2, H: 3}
	l := []refused{
		{"no planes", api.Picture{}, api.ErrPictureForm},
		{"an empty list of planes", api.Picture{Planes: []api.Plane{}}, api.ErrPictureForm},
		{"no planes, only spare room", api.Picture{Planes: planesOf(good)[:0]}, api.ErrPictureForm},
		{"no planes in RGB", api.Picture{Space: api.RGB}, api.ErrPictureForm},
		{"no planes in no space", api.Picture{Space: 9}, api.ErrPictureForm},
		{"five planes", api.Picture{Planes: planesOf(good, good, good, good, good)}, api.ErrPictureForm},
		{"five planes in RGB", api.Picture{Space: api.RGB, Planes: planesOf(good, good, good, good, good)}, api.ErrPictureForm},
		{"five planes, one of no size", api.Picture{Planes: planesOf(size, good, good, good, good)}, api.ErrPictureForm},
		{"five planes, the last one short", api.Picture{Space: -1, Planes: planesOf(good, good, good, good, short)}, api.ErrPictureForm},
		{"no size", api.Picture{Planes: planesOf(size)}, api.ErrPlaneSize},
		{"a side too great", api.Picture{Planes: planesOf(side)}, api.ErrPlaneSize},
		{"an area too great", api.Picture{Planes: planesOf(area, area)}, api.ErrPlaneSize},
		{"short", api.Picture{Planes: planesOf(short)}, api.ErrPlaneCount},
		{"excess", api.Picture{Planes: planesOf(excess)}, api.ErrPlaneCount},
		{"none", api.Picture{Planes: planesOf(none)}, api.ErrPlaneCount},
		{"short ahead of no size", api.Picture{Planes: planesOf(good, short, size)}, api.ErrPlaneCount},
		{"no size ahead of short", api.Picture{Planes: planesOf(good, size, short)}, api.ErrPlaneSize},
		{"no size, in no space", api.Picture{Space: 5, Planes: planesOf(size)}, api.ErrPlaneSize},
		{"short, in RGB, alone", api.Picture{Space: api.RGB, Planes: planesOf(short)}, api.ErrPlaneCount},
		{"unlike sizes, then short", api.Picture{Planes: planesOf(good, wide, short)}, api.ErrPlaneCount},
		{"unlike sizes, then no size", api.Picture{Space: -1, Planes: planesOf(good, wide, long, size)}, api.ErrPlaneSize},
		{"unlike widths and heights", api.Picture{Planes: planesOf(good, wide)}, api.ErrPictureForm},
		{"unlike heights", api.Picture{Planes: planesOf(good, long)}, api.ErrPictureForm},
		{"unlike widths", api.Picture{Planes: planesOf(wide, numbered(4, 2, 0))}, api.ErrPictureForm},
		{"the last one unlike", api.Picture{Space: api.RGB, Planes: planesOf(good, good, good, long)}, api.ErrPictureForm},
		{"the middle one unlike", api.Picture{Planes: planesOf(good, long, good)}, api.ErrPictureForm},
		{"two and two", api.Picture{Planes: planesOf(good, good, long, long)}, api.ErrPictureForm},
		{"unlike sizes in no space", api.Picture{Space: 5, Planes: planesOf(good, long, good)}, api.ErrPictureForm},
		{"two of unlike sizes in RGB", api.Picture{Space: api.RGB, Planes: planesOf(good, long)}, api.ErrPictureForm},
	}
	for planes := 1; planes <= 4; planes++ {
		for _, space := range wrongSpaces() {
			l = append(l, refused{"no space", pictureOf(space, planes, 2, 3, 0), api.ErrPictureSpace})
		}
	}
	for planes := 1; planes <= 2; planes++ {
		for space := api.RGB; space <= api.Lifted; space++ {
			l = append(l, refused{"too few for the space", pictureOf(space, planes, 2, 3, 0), api.ErrPictureSpace})
		}
	}
	return l
}

// wrongPlanes: numbers that no plane of p has (Map, Affine and Between take -1).
func wrongPlanes(p api.Picture) []int {
	n := len(p.Planes)
	return []int{n, n + 1, -2, -3, -n - 1, 4, 5, 256, 1 << 32, -1 << 32, math.MinInt, math.MaxInt}
}

func isSamePlane(p, q api.Plane) bool { return p.W == q.W && p.H == q.H && slices.Equal(p.S, q.S) }

func isSame(p, q api.Picture) bool {
	return p.Space == q.Space && slices.EqualFunc(p.Planes, q.Planes, isSamePlane)
}

func checkPicture(t *testing.T, what string, got api.Picture, e api.Errno, want api.Picture) {
	t.Helper()
	if e == api.OK && isSame(got, want) {
		return
	}
	if len(want.Planes) > 0 && len(want.Planes[0].S) > 12 {
		t.Fatalf("%s: %d, space %d, %d planes, want space %d, %d planes: %s", what, e, got.Space, len(got.Planes), want.Space, len(want.Planes), firstUnlike(got, want))
	}
	t.Fatalf("%s: %d, %08X, want %08X", what, e, got, want)
}

func firstUnlike(got, want api.Picture) any {
	for i := range min(len(got.Planes), len(want.Planes)) {
		a, b := got.Planes[i], want.Planes[i]
		for j := range min(len(a.S), len(b.S)) {
			if a.S[j] != b.S[j] {
				return []any{"plane", i, "sample", j, a.S[j], "want", b.S[j]}
			}
		}
	}
	return "no sample"
}

// checkNone: an error, and nothing beside it.
func checkNone(t *testing.T, what string, got api.Picture, e, want api.Errno) {
	t.Helper()
	if e != want || got.Space != 0 || len(got.Planes) != 0 {
		t.Fatalf("%s: error %d, want %d, space %d, %d planes", what, e, want, got.Space, len(got.Planes))
	}
}

// must: of a call that is known to be right.
func must(p api.Picture, e api.Errno) api.Picture {
	if e != api.OK {
		panic(e)
	}
	return p
}

// eachSample: p, but that in each plane each sample is what at tells of it.
func eachSample(p api.Picture, at func(plane int, s uint32) uint32) api.Picture {
	told := api.Picture{Space: p.Space}
	for i, q := range p.Planes {
		l := api.Plane{W: q.W, H: q.H}
		for _, s := range q.S {
			l.S = append(l.S, at(i, s))
		}
		told.Planes = append(told.Planes, l)
	}
	return told
}

func clone(p api.Picture) api.Picture {
	return eachSample(p, func(_ int, s uint32) uint32 { return s })
}

func inSpace(p api.Picture, space int) api.Picture {
	return api.Picture{Space: space, Planes: p.Planes}
}
