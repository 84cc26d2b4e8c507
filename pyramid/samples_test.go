package pyramid_test

import (
	"math"
	"slices"
	"testing"

	"halide/api"
)

const (
	sign        = 0x80000000
	minusZero   = 0x80000000
	leastSmall  = 0x00000001
	leastNormal = 0x00800000
	quarter     = 0x3E800000
	half        = 0x3F000000
	one         = 0x3F800000
	two         = 0x40000000
	three       = 0x40400000
	four        = 0x40800000
	eight       = 0x41000000
	greatest    = 0x7F7FFFFF
	infinity    = 0x7F800000
	made        = 0x7FC00000
)

func bothSigns(l ...uint32) []uint32 {
	var all []uint32
	for _, s := range l {
		all = append(all, s, s|sign)
	}
	return all
}

// finites: noughts, subnormal and normal samples, the greatest ones too.
func finites() []uint32 {
	return bothSigns(0, leastSmall, 3, 0x007FFFFF, leastNormal, 0x00FFFFFF, 0x33800001, 0x3EAAAAAB, one, one+1, 0x40490FDB, 0x4B7FFFFF, greatest-1, greatest)
}

func infinites() []uint32 { return bothSigns(infinity) }

func nans() []uint32 { return bothSigns(infinity+1, made-1, made, made+9, 0x7FFFFFFF) }

func edges() []uint32 { return slices.Concat(finites(), infinites(), nans()) }

// chance: numbers that look as if by chance, the same ones each time.
func chance(seed uint64) func() uint32 {
	return func() uint32 {
		seed = seed*6364136223846793005 + 1442695040888963407
		return uint32(seed >> 32)
	}
}

// finiteByChance: of all exponents that are finite.
func finiteByChance(next func() uint32) uint32 {
	s := next()
	if s>>23&255 == 255 {
		s ^= 0x00800000
	}
	return s
}

// oneOf: of a list, by chance.
func oneOf(l []uint32, next func() uint32) uint32 { return l[next()%uint32(len(l))] }

// near: by chance from 1 to 2, both signs: sums of these are rounded.
func near(next func() uint32) uint32 { return next()&0x807FFFFF | one }

// wide: by chance of 64 exponents about 1's: sums of these are rounded in binary64, too.
func wide(next func() uint32) uint32 {
	return next()&0x807FFFFF | (95+next()%64)<<23
}

func planeOf(w, h int, s ...uint32) api.Plane { return api.Plane{W: w, H: h, S: s} }

func rowOf(s ...uint32) api.Plane { return planeOf(len(s), 1, s...) }

func columnOf(s ...uint32) api.Plane { return planeOf(1, len(s), s...) }

func filled(w, h int, sample func() uint32) api.Plane {
	p := planeOf(w, h, make([]uint32, w*h)...)
	for i := range p.S {
		p.S[i] = sample()
	}
	return p
}

func allOf(w, h int, s uint32) api.Plane { return filled(w, h, func() uint32 { return s }) }

func bitsByChance(w, h int, seed uint64) api.Plane { return filled(w, h, chance(seed)) }

// someSizes: one place, one line, even and odd sides, and such as become odd or one when they are halved.
func someSizes() [][2]int {
	return [][2]int{{1, 1}, {2, 1}, {1, 2}, {2, 2}, {3, 2}, {2, 3}, {3, 3}, {4, 5}, {9, 1}, {1, 9}, {8, 1}, {1, 8}, {6, 7}, {7, 6}, {16, 4}, {5, 17}, {19, 13}}
}

func greatSizes() [][2]int {
	return [][2]int{{1024, 1}, {1, 1024}, {1023, 2}, {1024, 64}, {64, 1024}, {256, 256}, {255, 257}}
}

// finitePlanes: near one another, far from one another, of all exponents, of edges, of the greatest and of the least ones alone.
func finitePlanes(w, h int) []api.Plane {
	next := chance(uint64(w*1000 + h))
	return []api.Plane{
		filled(w, h, func() uint32 { return near(next) }),
		filled(w, h, func() uint32 { return wide(next) }),
		filled(w, h, func() uint32 { return finiteByChance(next) }),
		filled(w, h, func() uint32 { return oneOf(finites(), next) }),
		filled(w, h, func() uint32 { return near(next) &^ sign }),
		filled(w, h, func() uint32 { return greatest - next()>>31 }),
		filled(w, h, func() uint32 { return greatest | next()&sign }),
		filled(w, h, func() uint32 { return next() % 3 }),
		filled(w, h, func() uint32 { return next() & sign }),
	}
}

// somePlanes: those, some of edges among others, of edges alone, and of all bits.
func somePlanes(w, h int) []api.Plane {
	next := chance(uint64(w*2000 + h))
	all := edges()
	some := filled(w, h, func() uint32 { return near(next) })
	for i := range some.S {
		if next()%16 == 0 {
			some.S[i] = oneOf(all, next)
		}
	}
	return append(finitePlanes(w, h), some,
		filled(w, h, func() uint32 { return oneOf(all, next) }),
		filled(w, h, next),
	)
}

func isNaN(s uint32) bool { return s&^uint32(sign) > infinity }

// value: of a sample that is no NaN.
func value(s uint32) float64 { return float64(math.Float32frombits(s)) }

func at(p api.Plane, x, y int) uint32 { return p.S[y*p.W+x] }

func isSame(p, q api.Plane) bool { return p.W == q.W && p.H == q.H && slices.Equal(p.S, q.S) }

func clone(p api.Plane) api.Plane { return planeOf(p.W, p.H, slices.Clone(p.S)...) }

func cloneAll(l []api.Plane) []api.Plane {
	var told []api.Plane
	for _, p := range l {
		told = append(told, clone(p))
	}
	return told
}

func few(l []uint32) []uint32 { return l[:min(len(l), 12)] }

func checkPlane(t *testing.T, what string, got api.Plane, e api.Errno, want api.Plane) {
	t.Helper()
	if e != api.OK || !isSame(got, want) {
		t.Fatalf("%s: %d by %d %08X, %d, want %d by %d %08X", what, got.W, got.H, few(got.S), e, want.W, want.H, few(want.S))
	}
}

func checkPlanes(t *testing.T, what string, got []api.Plane, e api.Errno, want []api.Plane) {
	t.Helper()
	if e != api.OK || len(got) != len(want) {
		t.Fatalf("%s: %d planes, %d, want %d", what, len(got), e, len(want))
	}
	for k := range want {
		checkPlane(t, what, got[k], e, want[k])
	}
}

// checkNone: an error, and nothing beside it.
func checkNone(t *testing.T, what string, got api.Plane, e, want api.Errno) {
	t.Helper()
	if e != want || got.W != 0 || got.H != 0 || len(got.S) != 0 {
		t.Fatalf("%s: %d by %d with %d samples, %d, want %d", what, got.W, got.H, len(got.S), e, want)
	}
}

// must: of a call that is known to be right.
func must[T any](v T, e api.Errno) T {
	if e != api.OK {
		panic(e)
	}
	return v
}

type refused struct {
	p    api.Plane
	want api.Errno
}

func refusedPlanes() []refused {
	l := []refused{{api.Plane{}, api.ErrPlaneSize}}
	for _, z := range wrongSizes() {
		l = append(l, refused{api.Plane{W: z[0], H: z[1]}, api.ErrPlaneSize}, refused{api.Plane{W: z[0], H: z[1], S: make([]uint32, 6)}, api.ErrPlaneSize})
	}
	for _, z := range [][2]int{{1, 1}, {2, 3}, {1024, 64}, {31, 2}} {
		for _, n := range []int{0, z[0]*z[1] - 1, z[0]*z[1] + 1} {
			l = append(l, refused{api.Plane{W: z[0], H: z[1], S: make([]uint32, n, n+9)}, api.ErrPlaneCount})
		}
	}
	return l
}

func wrongSizes() [][2]int {
	l := [][2]int{{0, 0}, {-1, -1}, {1024, 65}, {65, 1024}, {257, 256}, {1024, 1024}, {1025, 1025}, {-2, -3}, {1 << 32, 1 << 32}, {math.MaxInt, math.MaxInt}, {math.MinInt, math.MinInt}}
	for _, n := range []int{0, -1, 1025, -1024, 1 << 32, 1<<32 + 1, math.MinInt, math.MaxInt} {
		l = append(l, [2]int{n, 1}, [2]int{1, n}, [2]int{n, 3}, [2]int{3, n})
	}
	return l
}

// whole: whole numbers as samples.
func whole(l ...int) []uint32 {
	var told []uint32
	for _, n := range l {
		told = append(told, math.Float32bits(float32(n)))
	}
	return told
}
