package stat_test

import (
	"math"
	"slices"
	"testing"

	"halide/api"
)

const (
	sign        = 0x80000000
	minusZero   = 0x80000000
	leastSmall  = 0x00000001
	leastNormal = 0x00800000
	quarter     = 0x3E800000
	half        = 0x3F000000
	one         = 0x3F800000
	two         = 0x40000000
	four        = 0x40800000
	seven       = 0x40E00000
	greatest    = 0x7F7FFFFF
	infinity    = 0x7F800000
	made        = 0x7FC00000
)

// power: 2 to the e, of a normal sample.
func power(e int) uint32 { return uint32(e+127) << 23 }

func bothSigns(l ...uint32) []uint32 {
	var all []uint32
	for _, s := range l {
		all = append(all, s, s|sign)
	}
	return all
}

func finites() []uint32 {
	return bothSigns(0, leastSmall, 3, leastNormal-1, leastNormal, power(-24), power(-24)+1, 0x3EAAAAAB, one-1, one, one+1, 0x40490FDB, power(100), power(103), greatest-1, greatest)
}

func infinities() []uint32 { return bothSigns(infinity) }

func nans() []uint32 { return bothSigns(infinity+1, made-1, made, made+1, 0x7FFFFFFF) }

func edges() []uint32 { return slices.Concat(finites(), infinities(), nans()) }

func isNaN(s uint32) bool      { return s&^uint32(sign) > infinity }
func isInfinite(s uint32) bool { return s&^uint32(sign) == infinity }
func isFinite(s uint32) bool   { return s&^uint32(sign) < infinity }

// value: of a sample that is no NaN.
func value(s uint32) float64 { return float64(math.Float32frombits(s)) }

// key: DOC.md's words.
func key(s uint32) int {
	if s < sign {
		return int(s) + sign
	}
	return math.MaxUint32 - int(s)
}

// ofKey: the sample of that key.
func ofKey(k int) uint32 {
	if k >= sign {
		return uint32(k - sign)
	}
	return uint32(math.MaxUint32 - k)
}

// chance: numbers that look as if by chance, the same ones each time.
func chance(seed uint64) func() uint32 {
	return func() uint32 {
		seed = seed*6364136223846793005 + 1442695040888963407
		return uint32(seed >> 32)
	}
}

// upTo: by chance, from 0 to n - 1.
func upTo(n int, next func() uint32) int { return int(next()) % n }

func oneOf(l []uint32, next func() uint32) uint32 { return l[upTo(len(l), next)] }

// finiteByChance: of all exponents that are finite.
func finiteByChance(next func() uint32) uint32 {
	s := next()
	if !isFinite(s) {
		s ^= leastNormal
	}
	return s
}

// shuffled: a list in another order.
func shuffled(l []uint32, next func() uint32) []uint32 {
	told := slices.Clone(l)
	for i := len(told) - 1; i > 0; i-- {
		j := upTo(i+1, next)
		told[i], told[j] = told[j], told[i]
	}
	return told
}

func planeOf(w, h int, s ...uint32) api.Plane { return api.Plane{W: w, H: h, S: s} }

func rowOf(s ...uint32) api.Plane { return planeOf(len(s), 1, s...) }

func filled(w, h int, sample func() uint32) api.Plane {
	p := planeOf(w, h, make([]uint32, w*h)...)
	for i := range p.S {
		p.S[i] = sample()
	}
	return p
}

func allOf(w, h int, s uint32) api.Plane { return filled(w, h, func() uint32 { return s }) }

// counted: each place has a sample of its own, rising from the first one.
func counted(w, h int) api.Plane {
	n := uint32(one)
	return filled(w, h, func() uint32 { n++; return n })
}

func whole(p api.Plane) api.Rect { return api.Rect{X1: p.W, Y1: p.H} }

// somePlanes: of all bits, of edges, finite ones, few unlike ones, near one another, noughts, NaNs, without NaNs, of one sample.
func somePlanes(w, h int) []api.Plane {
	next := chance(uint64(w*2000 + h))
	all, finite, nan := edges(), finites(), nans()
	return []api.Plane{
		filled(w, h, next),
		filled(w, h, func() uint32 { return oneOf(all, next) }),
		filled(w, h, func() uint32 { return oneOf(finite, next) }),
		filled(w, h, func() uint32 { return finiteByChance(next) }),
		filled(w, h, func() uint32 { return oneOf([]uint32{one, one | sign, infinity}, next) }),
		filled(w, h, func() uint32 { return oneOf([]uint32{one, one | sign, made + 9}, next) }),
		filled(w, h, func() uint32 { return next()&0x807FFFFF | one }),
		filled(w, h, func() uint32 { return next() & sign }),
		filled(w, h, func() uint32 { return oneOf(nan, next) }),
		counted(w, h),
		allOf(w, h, minusZero),
		allOf(w, h, infinity|sign),
	}
}

func someSizes() [][2]int {
	return [][2]int{{1, 1}, {2, 1}, {1, 2}, {3, 2}, {9, 1}, {1, 9}, {7, 8}, {5, 17}, {40, 31}}
}

// greatSizes: as wide, as high, as many places as may be.
func greatSizes() [][2]int { return [][2]int{{1024, 64}, {64, 1024}, {256, 256}, {1024, 1}} }

func allPlanes() []api.Plane {
	var l []api.Plane
	for _, z := range someSizes() {
		l = append(l, somePlanes(z[0], z[1])...)
	}
	return l
}

func wrongBits() []int {
	return []int{0, -1, 13, -12, 14, 16, 32, 33, 64, 65, 1 << 31, 1 << 32, 1<<32 + 1, 1<<32 + 12, math.MinInt, math.MinInt + 1, math.MaxInt}
}

// wrongRects: that aren't within a size.
func wrongRects(w, h int) []api.Rect {
	l := []api.Rect{{}, {X0: 1, Y0: 1, X1: 1, Y1: 1}, {X0: w, Y0: 0, X1: 0, Y1: h}, {X0: -1, Y0: -1, X1: w, Y1: h}}
	for _, r := range []api.Rect{{X1: w, Y1: h}, {X0: w - 1, Y0: h - 1, X1: w, Y1: h}} {
		for _, n := range []int{-1, -w - h, 1 << 31, 1<<32 + 1, math.MinInt, math.MinInt + 1, math.MaxInt} {
			l = append(l, api.Rect{X0: n, Y0: r.Y0, X1: r.X1, Y1: r.Y1}, api.Rect{X0: r.X0, Y0: n, X1: r.X1, Y1: r.Y1})
			l = append(l, api.Rect{X0: r.X0, Y0: r.Y0, X1: n, Y1: r.Y1}, api.Rect{X0: r.X0, Y0: r.Y0, X1: r.X1, Y1: n})
		}
		l = append(l, api.Rect{X0: r.X0, Y0: r.Y0, X1: w + 1, Y1: h}, api.Rect{X0: r.X0, Y0: r.Y0, X1: w, Y1: h + 1})
		l = append(l, api.Rect{X0: r.X0, Y0: r.Y0, X1: r.X0, Y1: h}, api.Rect{X0: r.X0, Y0: r.Y0, X1: w, Y1: r.Y0})
	}
	return l
}

type refused struct {
	p    api.Plane
	want api.Errno
}

func refusedPlanes() []refused {
	l := []refused{{api.Plane{}, api.ErrPlaneSize}}
	for _, z := range wrongSizes() {
		l = append(l, refused{api.Plane{W: z[0], H: z[1]}, api.ErrPlaneSize}, refused{api.Plane{W: z[0], H: z[1], S: make([]uint32, 6)}, api.ErrPlaneSize})
	}
	for _, z := range [][2]int{{1, 1}, {2, 3}, {1024, 64}, {31, 2}} {
		for _, n := range []int{0, z[0]*z[1] - 1, z[0]*z[1] + 1} {
			l = append(l, refused{api.Plane{W: z[0], H: z[1], S: make([]uint32, n, n+9)}, api.ErrPlaneCount})
		}
	}
	return l
}

func wrongSizes() [][2]int {
	l := [][2]int{{0, 0}, {-1, -1}, {1024, 65}, {65, 1024}, {257, 256}, {1024, 1024}, {1025, 1025}, {-2, -3}, {1 << 32, 1 << 32}, {math.MaxInt, math.MaxInt}, {math.MinInt, math.MinInt}}
	for _, n := range []int{0, -1, 1025, -1024, 1 << 32, 1<<32 + 1, math.MinInt, math.MaxInt} {
		l = append(l, [2]int{n, 1}, [2]int{1, n}, [2]int{n, 3}, [2]int{3, n})
	}
	return l
}

func isSame(p, q api.Plane) bool { return p.W == q.W && p.H == q.H && slices.Equal(p.S, q.S) }

func clone(p api.Plane) api.Plane { return planeOf(p.W, p.H, slices.Clone(p.S)...) }

// few: so much of a list as an error may show.
func few(l []uint32) []uint32 { return l[:min(len(l), 8)] }

func checkPlane(t *testing.T, what string, got api.Plane, e api.Errno, want api.Plane) {
	t.Helper()
	if e != api.OK || !isSame(got, want) {
		t.Fatalf("%s: %d by %d %08X, %d, want %d by %d %08X", what, got.W, got.H, few(got.S), e, want.W, want.H, few(want.S))
	}
}

// checkNone: an error, and nothing beside it.
func checkNone(t *testing.T, what string, got api.Plane, e, want api.Errno) {
	t.Helper()
	if e != want || got.W != 0 || got.H != 0 || len(got.S) != 0 {
		t.Fatalf("%s: %d by %d with %d samples, %d, want %d", what, got.W, got.H, len(got.S), e, want)
	}
}

func checkSample(t *testing.T, what string, got uint32, e api.Errno, want uint32) {
	t.Helper()
	if e != api.OK || got != want {
		t.Fatalf("%s: %08X, %d, want %08X", what, got, e, want)
	}
}

func checkNoSample(t *testing.T, what string, got uint32, e, want api.Errno) {
	t.Helper()
	if e != want || got != 0 {
		t.Fatalf("%s: %08X, %d, want %d", what, got, e, want)
	}
}

// must: of a call that is known to be right.
func must[T any](v T, e api.Errno) T {
	if e != api.OK {
		panic(e)
	}
	return v
}
