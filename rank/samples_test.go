package rank_test

import (
	"math"
	"slices"
	"testing"

	"halide/api"
)

const (
	sign      = 0x80000000
	minusZero = 0x80000000
	one       = 0x3F800000
	two       = 0x40000000
	three     = 0x40400000
	four      = 0x40800000
	greatest  = 0x7F7FFFFF
	infinity  = 0x7F800000
	made      = 0x7FC00000
	nan       = 0x7FC00001
)

func borders() []int { return []int{api.Clamp, api.Mirror, api.Wrap} }

func wrongBorders() []int {
	return []int{0, -1, 4, 5, 53, 120, 1 << 31, 1 << 32, 1<<32 + 1, 1<<32 + 2, math.MinInt, math.MinInt + 1, math.MaxInt}
}

// wrongSides: of a window; among them some whose products go round to what a window may have.
func wrongSides() []int {
	return []int{0, -1, 16, -15, 17, 225, 1024, 1 << 31, 1 << 32, 1<<32 + 1, 1 << 62, 1<<63 - 1, math.MinInt, math.MinInt + 1, math.MaxInt - 1}
}

// wrongRanks: of a window of n places.
func wrongRanks(n int) []int {
	return []int{-1, n, n + 1, -n, 2 * n, 225 + n, 1 << 31, 1 << 32, 1<<32 + 1, math.MinInt, math.MinInt + 1, math.MaxInt}
}

func bothSigns(l ...uint32) []uint32 {
	var all []uint32
	for _, s := range l {
		all = append(all, s, s|sign)
	}
	return all
}

// edges: noughts, subnormal and normal samples, infinities and NaNs of all kinds.
func edges() []uint32 {
	return bothSigns(0, 1, 3, 0x007FFFFF, 0x00800000, 0x00FFFFFF, 0x3EAAAAAB, one, one+1, 0x40490FDB, greatest-1, greatest, infinity, infinity+1, made-1, made, nan, 0x7FFFFFFF)
}

// chance: numbers that look as if by chance, the same ones each time.
func chance(seed uint64) func() uint32 {
	return func() uint32 {
		seed = seed*6364136223846793005 + 1442695040888963407
		return uint32(seed >> 32)
	}
}

// oneOf: of a list, by chance.
func oneOf(l []uint32, next func() uint32) uint32 { return l[next()%uint32(len(l))] }

func planeOf(w, h int, s ...uint32) api.Plane { return api.Plane{W: w, H: h, S: s} }

func rowOf(s ...uint32) api.Plane { return planeOf(len(s), 1, s...) }

func filled(w, h int, sample func() uint32) api.Plane {
	p := planeOf(w, h, make([]uint32, w*h)...)
	for i := range p.S {
		p.S[i] = sample()
	}
	return p
}

func allOf(w, h int, s uint32) api.Plane { return filled(w, h, func() uint32 { return s }) }

// counted: each place has a sample of its own, rising from the first one.
func counted(w, h int) api.Plane {
	n := uint32(one)
	return filled(w, h, func() uint32 { n++; return n })
}

// someSizes: one place, one line, sides below, at and above what a window reaches.
func someSizes() [][2]int {
	return [][2]int{{1, 1}, {2, 1}, {1, 2}, {3, 2}, {9, 1}, {1, 9}, {7, 8}, {5, 17}, {19, 4}}
}

// somePlanes: of all bits, of edges, of few unlike ones, of noughts alone, each in an order of its own.
func somePlanes(w, h int) []api.Plane {
	next := chance(uint64(w*2000 + h))
	all := edges()
	return []api.Plane{
		filled(w, h, next),
		filled(w, h, func() uint32 { return oneOf(all, next) }),
		filled(w, h, func() uint32 { return oneOf([]uint32{one, one | sign, nan}, next) }),
		filled(w, h, func() uint32 { return next() & sign }),
		counted(w, h),
	}
}

// sides: of windows: the least and the greatest, even and odd ones.
func sides() []int { return []int{1, 2, 3, 4, 7, 14, 15} }

// eachWindow: sides and borders, each with each.
func eachWindow(do func(border, w, h int)) {
	for _, border := range borders() {
		for _, w := range sides() {
			for _, h := range sides() {
				do(border, w, h)
			}
		}
	}
}

// ranks: of n places the first and the last ones, some between.
func ranks(n int) []int {
	l := []int{0, 1, n / 3, (n - 1) / 2, n / 2, n - 2, n - 1}
	l = slices.DeleteFunc(l, func(k int) bool { return k < 0 || k >= n })
	slices.Sort(l)
	return slices.Compact(l)
}

func isSame(p, q api.Plane) bool { return p.W == q.W && p.H == q.H && slices.Equal(p.S, q.S) }

func clone(p api.Plane) api.Plane { return planeOf(p.W, p.H, slices.Clone(p.S)...) }

// replaced: f of each sample.
func replaced(p api.Plane, f func(s uint32) uint32) api.Plane {
	told := clone(p)
	for i, s := range told.S {
		told.S[i] = f(s)
	}
	return told
}

func few(l []uint32) []uint32 { return l[:min(len(l), 12)] }

func checkPlane(t *testing.T, what string, got api.Plane, e api.Errno, want api.Plane) {
	t.Helper()
	if e != api.OK || !isSame(got, want) {
		t.Fatalf("%s: %d by %d %08X, %d, want %d by %d %08X", what, got.W, got.H, few(got.S), e, want.W, want.H, few(want.S))
	}
}

// checkNone: an error, and nothing beside it.
func checkNone(t *testing.T, what string, got api.Plane, e, want api.Errno) {
	t.Helper()
	if e != want || got.W != 0 || got.H != 0 || len(got.S) != 0 {
		t.Fatalf("%s: %d by %d with %d samples, %d, want %d", what, got.W, got.H, len(got.S), e, want)
	}
}

// must: of a call that is known to be right.
func must[T any](v T, e api.Errno) T {
	if e != api.OK {
		panic(e)
	}
	return v
}

type refused struct {
	p    api.Plane
	want api.Errno
}

func refusedPlanes() []refused {
	l := []refused{{api.Plane{}, api.ErrPlaneSize}}
	for _, z := range wrongSizes() {
		l = append(l, refused{api.Plane{W: z[0], H: z[1]}, api.ErrPlaneSize}, refused{api.Plane{W: z[0], H: z[1], S: make([]uint32, 6)}, api.ErrPlaneSize})
	}
	for _, z := range [][2]int{{1, 1}, {2, 3}, {1024, 64}, {31, 2}} {
		for _, n := range []int{0, z[0]*z[1] - 1, z[0]*z[1] + 1} {
			l = append(l, refused{api.Plane{W: z[0], H: z[1], S: make([]uint32, n, n+9)}, api.ErrPlaneCount})
		}
	}
	return l
}

func wrongSizes() [][2]int {
	l := [][2]int{{0, 0}, {-1, -1}, {1024, 65}, {65, 1024}, {257, 256}, {1024, 1024}, {1025, 1025}, {-2, -3}, {1 << 32, 1 << 32}, {math.MaxInt, math.MaxInt}, {math.MinInt, math.MinInt}}
	for _, n := range []int{0, -1, 1025, -1024, 1 << 32, 1<<32 + 1, math.MinInt, math.MaxInt} {
		l = append(l, [2]int{n, 1}, [2]int{1, n}, [2]int{n, 3}, [2]int{3, n})
	}
	return l
}
