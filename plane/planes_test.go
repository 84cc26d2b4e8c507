package plane_test

import (
	"math"
	"slices"
	"testing"

	"halide/api"
	"halide/plane"
)

const sign = 0x80000000

// named: samples whose bits a float variable might lose, all unlike.
func named() []uint32 {
	var all []uint32
	for _, s := range []uint32{0, 1, 0x007FFFFF, 0x00800000, 0x3F800000, 0x7F7FFFFF, 0x7F800000, 0x7F800001, 0x7FBFFFFF, 0x7FC00000, 0x7FC00009, 0x7FFFFFFF} {
		all = append(all, s, s|sign)
	}
	return all
}

// numbers: whole numbers at which a sum or a difference would go round, and some nearer ones.
func numbers() []int {
	l := []int{math.MinInt, math.MinInt + 1, math.MinInt + 1024, math.MinInt32, -65537, -1025, -1024, -1023, 1023, 1024, 1025, 65536, math.MaxInt32, 1 << 32, 1 << 62, -1 << 62, math.MaxInt - 1024, math.MaxInt - 1, math.MaxInt}
	for i := -9; i <= 9; i++ {
		l = append(l, i)
	}
	return l
}

// numbered: a plane of samples that are all unlike, the named ones first.
func numbered(w, h int) api.Plane {
	s := make([]uint32, w*h)
	n := copy(s, named())
	for i := n; i < len(s); i++ {
		s[i] = 0x41000000 + uint32(i)
	}
	return api.Plane{W: w, H: h, S: s}
}

// another: a plane of samples that numbered never has.
func another(w, h int) api.Plane {
	s := make([]uint32, w*h)
	for i := range s {
		s[i] = 0xFFD00000 + uint32(i)
	}
	return api.Plane{W: w, H: h, S: s}
}

func smallSizes() [][2]int {
	return [][2]int{{1, 1}, {1, 2}, {2, 1}, {1, 7}, {7, 1}, {2, 2}, {2, 3}, {3, 2}, {5, 4}, {4, 9}}
}

func greatSizes() [][2]int {
	return [][2]int{{1024, 1}, {1, 1024}, {1024, 64}, {64, 1024}, {256, 256}, {1023, 64}, {255, 257}}
}

func somePlanes() []api.Plane {
	var l []api.Plane
	for _, z := range append(smallSizes(), greatSizes()...) {
		l = append(l, numbered(z[0], z[1]))
	}
	return l
}

func smallPlanes() []api.Plane {
	var l []api.Plane
	for _, z := range smallSizes() {
		l = append(l, numbered(z[0], z[1]))
	}
	return l
}

type refused struct {
	p    api.Plane
	want api.Errno
}

// refusedPlanes: the sides and counts that the chapter names, with what Check tells of them.
func refusedPlanes() []refused {
	var l []refused
	for _, z := range wrongSizes() {
		for _, n := range []int{0, 1, 6, 65536} {
			l = append(l, refused{api.Plane{W: z[0], H: z[1], S: make([]uint32, n)}, api.ErrPlaneSize})
		}
		l = append(l, refused{api.Plane{W: z[0], H: z[1]}, api.ErrPlaneSize})
	}
	for _, z := range append(smallSizes(), greatSizes()...) {
		area := z[0] * z[1]
		for _, n := range []int{0, area - 1, area + 1, 2 * area} {
			l = append(l, refused{api.Plane{W: z[0], H: z[1], S: make([]uint32, n)}, api.ErrPlaneCount})
		}
		spare := make([]uint32, area-1, area+9)
		l = append(l, refused{api.Plane{W: z[0], H: z[1], S: spare}, api.ErrPlaneCount})
	}
	return append(l, refused{api.Plane{}, api.ErrPlaneSize})
}

func wrongSizes() [][2]int {
	l := [][2]int{{0, 0}, {-1, -1}, {-2, -3}, {1025, 64}, {64, 1025}, {1024, 65}, {65, 1024}, {257, 256}, {256, 257}, {1024, 1024}, {1 << 32, 1 << 32}, {1 << 40, 1 << 40}, {math.MaxInt, math.MaxInt}, {math.MinInt, math.MinInt}, {-1 << 16, -1}}
	for _, n := range []int{0, -1, 1025, math.MinInt, math.MaxInt, 1 << 62, 1 << 32} {
		l = append(l, [2]int{n, 1}, [2]int{1, n}, [2]int{n, 9}, [2]int{9, n})
	}
	return l
}

// told: a plane by the chapter's words: what each place has.
func told(w, h int, at func(x, y int) uint32) api.Plane {
	p := api.Plane{W: w, H: h}
	for y := 0; y < h; y++ {
		for x := 0; x < w; x++ {
			p.S = append(p.S, at(x, y))
		}
	}
	return p
}

func rectOf(x0, y0, x1, y1 int) api.Rect { return api.Rect{X0: x0, Y0: y0, X1: x1, Y1: y1} }

func at(p api.Plane, x, y int) uint32 { return p.S[y*p.W+x] }

func isSame(p, q api.Plane) bool { return p.W == q.W && p.H == q.H && slices.Equal(p.S, q.S) }

func checkPlane(t *testing.T, what string, got api.Plane, e api.Errno, want api.Plane) {
	t.Helper()
	if e != api.OK || !isSame(got, want) {
		if len(got.S) > 40 || len(want.S) > 40 {
			t.Fatalf("%s: %d, %d x %d with %d samples, want %d x %d", what, e, got.W, got.H, len(got.S), want.W, want.H)
		}
		t.Fatalf("%s: %d, %d x %d %08X, want %d x %d %08X", what, e, got.W, got.H, got.S, want.W, want.H, want.S)
	}
}

// checkNone: an error, and nothing beside it.
func checkNone(t *testing.T, what string, got api.Plane, e, want api.Errno) {
	t.Helper()
	if e != want || got.W != 0 || got.H != 0 || len(got.S) != 0 {
		t.Fatalf("%s: %d x %d with %d samples, error %d, want %d", what, got.W, got.H, len(got.S), e, want)
	}
}

// must: of a call that is known to be right.
func must(p api.Plane, e api.Errno) api.Plane {
	if e != api.OK {
		panic(e)
	}
	return p
}

// A call that answers a plane, with arguments that none but a wrong plane can make an error of.
type move struct {
	name string
	do   func(p api.Plane) (api.Plane, api.Errno)
}

func moves() []move {
	return []move{
		{"Crop", func(p api.Plane) (api.Plane, api.Errno) { return plane.Crop(p, api.Rect{X1: 1, Y1: 1}) }},
		{"Crop of all", func(p api.Plane) (api.Plane, api.Errno) { return plane.Crop(p, api.Rect{X1: p.W, Y1: p.H}) }},
		{"Paste", func(p api.Plane) (api.Plane, api.Errno) { return plane.Paste(p, another(1, 2), 0, 0) }},
		{"Paste beside", func(p api.Plane) (api.Plane, api.Errno) { return plane.Paste(p, another(1, 2), -1, 0) }},
		{"Paste over another", func(p api.Plane) (api.Plane, api.Errno) { return plane.Paste(another(3, 3), p, 1, 1) }},
		{"Paste far from another", func(p api.Plane) (api.Plane, api.Errno) { return plane.Paste(another(3, 3), p, math.MaxInt, 1) }},
		{"Paste over itself", func(p api.Plane) (api.Plane, api.Errno) { return plane.Paste(p, p, 1, 0) }},
		{"Flip across", func(p api.Plane) (api.Plane, api.Errno) { return plane.Flip(p, true) }},
		{"Flip", func(p api.Plane) (api.Plane, api.Errno) { return plane.Flip(p, false) }},
		{"Transpose", plane.Transpose},
		{"Turn by 0", func(p api.Plane) (api.Plane, api.Errno) { return plane.Turn(p, 0) }},
		{"Turn by 1", func(p api.Plane) (api.Plane, api.Errno) { return plane.Turn(p, 1) }},
		{"Turn by 2", func(p api.Plane) (api.Plane, api.Errno) { return plane.Turn(p, 2) }},
		{"Turn by -1", func(p api.Plane) (api.Plane, api.Errno) { return plane.Turn(p, -1) }},
		{"Extend by 0", func(p api.Plane) (api.Plane, api.Errno) { return plane.Extend(p, api.Clamp, 0, 0, 0, 0) }},
	}
}
