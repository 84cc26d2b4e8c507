package scale_test

import (
	"math"
	"slices"
	"testing"

	"halide/api"
)

const (
	sign        = 0x80000000
	minusZero   = 0x80000000
	leastSmall  = 0x00000001
	leastNormal = 0x00800000
	quarter     = 0x3E800000
	one         = 0x3F800000
	two         = 0x40000000
	three       = 0x40400000
	four        = 0x40800000
	great       = 0x7B800000 // 2^120
	greatest    = 0x7F7FFFFF
	infinity    = 0x7F800000
	made        = 0x7FC00000
)

func kinds() []int { return []int{api.Box, api.Tent, api.Cubic} }

func wrongKinds() []int { return []int{0, 4, -1, 9, 100, 1 << 32, math.MinInt, math.MaxInt} }

func wrongSides() []int {
	return []int{0, -1, 1025, -1024, 1 << 32, 1<<32 + 1, math.MinInt, math.MaxInt, math.MaxInt / 15}
}

func bothSigns(l ...uint32) []uint32 {
	var all []uint32
	for _, s := range l {
		all = append(all, s, s|sign)
	}
	return all
}

// finites: noughts, subnormal and normal samples, the greatest ones too.
func finites() []uint32 {
	return bothSigns(0, leastSmall, 3, 0x007FFFFF, leastNormal, 0x00FFFFFF, 0x33800001, 0x3EAAAAAB, one, one+1, 0x40490FDB, 0x4B7FFFFF, great, greatest-1, greatest)
}

// edges: these, infinities and NaNs.
func edges() []uint32 {
	return append(finites(), bothSigns(infinity, infinity+1, made-1, made, made+9, 0x7FFFFFFF)...)
}

// chance: numbers that look as if by chance, the same ones each time.
func chance(seed uint64) func() uint32 {
	return func() uint32 {
		seed = seed*6364136223846793005 + 1442695040888963407
		return uint32(seed >> 32)
	}
}

// finiteByChance: of all exponents that are finite.
func finiteByChance(next func() uint32) uint32 {
	s := next()
	if s>>23&255 == 255 {
		s ^= 0x00800000
	}
	return s
}

// near: by chance from 1 to 2, both signs: sums of these are rounded.
func near(next func() uint32) uint32 { return next()&0x807FFFFF | one }

func rowOf(n int, sample func() uint32) []uint32 {
	l := make([]uint32, n)
	for i := range l {
		l[i] = sample()
	}
	return l
}

func planeOf(w, h int, s ...uint32) api.Plane { return api.Plane{W: w, H: h, S: s} }

func filled(w, h int, sample func() uint32) api.Plane { return planeOf(w, h, rowOf(w*h, sample)...) }

func allOf(w, h int, s uint32) api.Plane { return filled(w, h, func() uint32 { return s }) }

// somePlanes: of a size: near one another, far from one another, and with all edges among them.
func somePlanes(w, h int) []api.Plane {
	next := chance(uint64(w*2000 + h))
	l := []api.Plane{
		filled(w, h, func() uint32 { return near(next) }),
		filled(w, h, func() uint32 { return finiteByChance(next) }),
	}
	mixed := filled(w, h, func() uint32 { return near(next) })
	for i, s := range edges() {
		mixed.S[(i*7+int(next()%3))%len(mixed.S)] = s
	}
	return append(l, mixed)
}

func isNaN(s uint32) bool { return s&^uint32(sign) > infinity }

func isFinite(s uint32) bool { return s&^uint32(sign) < infinity }

// value: of a finite sample, exactly.
func value(s uint32) float64 { return float64(math.Float32frombits(s)) }

func rectOf(x0, y0, x1, y1 int) api.Rect { return api.Rect{X0: x0, Y0: y0, X1: x1, Y1: y1} }

func at(p api.Plane, x, y int) uint32 { return p.S[y*p.W+x] }

func isSame(p, q api.Plane) bool { return p.W == q.W && p.H == q.H && slices.Equal(p.S, q.S) }

func clone(p api.Plane) api.Plane { return planeOf(p.W, p.H, slices.Clone(p.S)...) }

func few(l []uint32) []uint32 { return l[:min(len(l), 12)] }

func checkRow(t *testing.T, what string, got []uint32, e api.Errno, want []uint32) {
	t.Helper()
	if e != api.OK || !slices.Equal(got, want) {
		t.Fatalf("%s: %d samples %08X, %d, want %d samples %08X", what, len(got), few(got), e, len(want), few(want))
	}
}

func checkPlane(t *testing.T, what string, got api.Plane, e api.Errno, want api.Plane) {
	t.Helper()
	if e != api.OK || !isSame(got, want) {
		t.Fatalf("%s: %d by %d %08X, %d, want %d by %d %08X", what, got.W, got.H, few(got.S), e, want.W, want.H, few(want.S))
	}
}

// checkNone: an error, and nothing beside it.
func checkNone(t *testing.T, what string, got api.Plane, e, want api.Errno) {
	t.Helper()
	if e != want || got.W != 0 || got.H != 0 || len(got.S) != 0 {
		t.Fatalf("%s: %d by %d with %d samples, %d, want %d", what, got.W, got.H, len(got.S), e, want)
	}
}

// must: of a call that is known to be right.
func must[T any](v T, e api.Errno) T {
	if e != api.OK {
		panic(e)
	}
	return v
}
