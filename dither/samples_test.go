package dither_test

import (
	"math"
	"slices"
	"testing"

	"halide/api"
)

const (
	sign      = 0x80000000
	minusZero = 0x80000000
	half      = 0x3F000000
	one       = 0x3F800000
	two       = 0x40000000
	greatest  = 0x7F7FFFFF
	infinity  = 0x7F800000
	made      = 0x7FC00000
	whole     = 1 << 24
)

func sampleOf(f float64) uint32 { return math.Float32bits(float32(f)) }

func bothSigns(l ...uint32) []uint32 {
	var all []uint32
	for _, s := range l {
		all = append(all, s, s|sign)
	}
	return all
}

// edges: noughts, subnormal and normal samples, some about half a unit and about 1, infinities and NaNs of all kinds.
func edges() []uint32 {
	return bothSigns(0, 1, 3, 0x007FFFFF, 0x00800000, 0x32FFFFFF, 0x33000000, 0x33000001, 0x337FFFFF, 0x33800000, 0x3EAAAAAB, half-1, half, half+1, one-1, one, one+1, two, 0x40490FDB, greatest, infinity, infinity+1, made-1, made, made+1, 0x7FFFFFFF)
}

// chance: numbers that look as if by chance, the same ones each time.
func chance(seed uint64) func() uint32 {
	return func() uint32 {
		seed = seed*6364136223846793005 + 1442695040888963407
		return uint32(seed >> 32)
	}
}

// between: finite samples from lo to hi, by chance.
func between(lo, hi float64, next func() uint32) func() uint32 {
	return func() uint32 { return sampleOf(lo + (hi-lo)*float64(next())/(1<<32)) }
}

// oneOf: of a list, by chance.
func oneOf(l []uint32, next func() uint32) func() uint32 {
	return func() uint32 { return l[next()%uint32(len(l))] }
}

func planeOf(w, h int, s ...uint32) api.Plane { return api.Plane{W: w, H: h, S: s} }

func rowOf(s ...uint32) api.Plane { return planeOf(len(s), 1, s...) }

func filled(w, h int, sample func() uint32) api.Plane {
	p := planeOf(w, h, make([]uint32, w*h)...)
	for i := range p.S {
		p.S[i] = sample()
	}
	return p
}

func allOf(w, h int, s uint32) api.Plane { return filled(w, h, func() uint32 { return s }) }

// someSizes: one place, one line, sides below and above a table's.
func someSizes() [][2]int {
	return [][2]int{{1, 1}, {2, 1}, {1, 2}, {2, 2}, {3, 2}, {9, 1}, {1, 9}, {7, 8}, {5, 19}, {21, 4}}
}

func greatSizes() [][2]int {
	return [][2]int{{1024, 1}, {1, 1024}, {1024, 64}, {64, 1024}, {256, 256}}
}

// somePlanes: from 0 to 1; beyond both ends; of edges; of all bits; of one sample.
func somePlanes(w, h int) []api.Plane {
	next := chance(uint64(w*2000 + h))
	return []api.Plane{
		filled(w, h, between(0, 1, next)),
		filled(w, h, between(-0.5, 1.5, next)),
		filled(w, h, oneOf(edges(), next)),
		filled(w, h, next),
		allOf(w, h, sampleOf(0.3)),
	}
}

// someLevels: the fewest and the most, such that 2^24 is a multiple of their gaps, and such that it isn't.
func someLevels() []int { return []int{2, 3, 4, 5, 7, 16, 17, 100, 129, 255, 256} }

func wrongLevels() []int {
	return []int{0, 1, -1, -2, 257, -256, 512, 1 << 31, 1 << 32, 1<<32 + 2, 1<<32 + 256, math.MinInt, math.MinInt + 2, math.MaxInt - 1, math.MaxInt}
}

func sides() []int { return []int{1, 2, 4, 8, 16} }

func wrongSides() []int {
	return []int{0, -1, -2, -16, 3, 5, 6, 7, 9, 10, 12, 15, 17, 24, 31, 32, 64, 256, 1 << 31, 1 << 32, 1<<32 + 1, 1<<32 + 16, 1 << 62, math.MinInt, math.MinInt + 1, math.MaxInt}
}

// places: where a plane may lie: at 0, about multiples of sides, far off, and where sums go round.
func places() []int {
	return []int{0, 1, -1, 2, 3, 7, -7, 15, 16, 17, -16, -17, 1 << 31, 1<<32 + 5, math.MinInt, math.MinInt + 1, math.MinInt + 9, math.MaxInt - 20, math.MaxInt - 6, math.MaxInt - 1, math.MaxInt}
}

func isSame(p, q api.Plane) bool { return p.W == q.W && p.H == q.H && slices.Equal(p.S, q.S) }

func few(l []uint32) []uint32 { return l[:min(len(l), 12)] }

func checkPlane(t *testing.T, what string, got api.Plane, e api.Errno, want api.Plane) {
	t.Helper()
	if e != api.OK || !isSame(got, want) {
		t.Fatalf("%s: %d by %d %08X, %d, want %d by %d %08X", what, got.W, got.H, few(got.S), e, want.W, want.H, few(want.S))
	}
}

// checkNone: an error, and nothing beside it.
func checkNone(t *testing.T, what string, got api.Plane, e, want api.Errno) {
	t.Helper()
	if e != want || got.W != 0 || got.H != 0 || len(got.S) != 0 {
		t.Fatalf("%s: %d by %d with %d samples, %d, want %d", what, got.W, got.H, len(got.S), e, want)
	}
}

// must: of a call that is known to be right.
func must[T any](v T, e api.Errno) T {
	if e != api.OK {
		panic(e)
	}
	return v
}

type refused struct {
	p    api.Plane
	want api.Errno
}

func refusedPlanes() []refused {
	l := []refused{{api.Plane{}, api.ErrPlaneSize}}
	for _, z := range wrongSizes() {
		l = append(l, refused{api.Plane{W: z[0], H: z[1]}, api.ErrPlaneSize}, refused{api.Plane{W: z[0], H: z[1], S: make([]uint32, 6)}, api.ErrPlaneSize})
	}
	for _, z := range [][2]int{{1, 1}, {2, 3}, {1024, 64}, {31, 2}} {
		for _, n := range []int{0, z[0]*z[1] - 1, z[0]*z[1] + 1} {
			l = append(l, refused{api.Plane{W: z[0], H: z[1], S: make([]uint32, n, n+9)}, api.ErrPlaneCount})
		}
	}
	return l
}

func wrongSizes() [][2]int {
	l := [][2]int{{0, 0}, {-1, -1}, {1024, 65}, {65, 1024}, {257, 256}, {1024, 1024}, {1025, 1025}, {-2, -3}, {1 << 32, 1 << 32}, {math.MaxInt, math.MaxInt}, {math.MinInt, math.MinInt}}
	for _, n := range []int{0, -1, 1025, -1024, 1 << 32, 1<<32 + 1, math.MinInt, math.MaxInt} {
		l = append(l, [2]int{n, 1}, [2]int{1, n}, [2]int{n, 3}, [2]int{3, n})
	}
	return l
}
