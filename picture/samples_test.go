package picture_test

import (
	"math"
	"math/rand"
)

const (
	plusZero      = 0x00000000
	minusZero     = 0x80000000
	leastSmall    = 0x00000001
	greatestSmall = 0x007FFFFF
	leastNormal   = 0x00800000
	half          = 0x3F000000
	one           = 0x3F800000
	two           = 0x40000000
	four          = 0x40800000
	greatest      = 0x7F7FFFFF
	infinity      = 0x7F800000
	leastNaN      = 0x7F800001
	made          = 0x7FC00000
	lastNaN       = 0x7FFFFFFF
	sign          = 0x80000000
)

func sampleOf(f float32) uint32 { return math.Float32bits(f) }

func valueOf(s uint32) float64 { return float64(math.Float32frombits(s)) }

func isNaN(s uint32) bool    { return s&^uint32(sign) > infinity }
func isFinite(s uint32) bool { return s&^uint32(sign) < infinity }

func bothSigns(above ...uint32) []uint32 {
	var all []uint32
	for _, s := range above {
		all = append(all, s, s|sign)
	}
	return all
}

func nans() []uint32 { return bothSigns(leastNaN, 0x7FBFFFFF, made, made+9, lastNaN) }

// finites: edges, of both signs.
func finites() []uint32 {
	return bothSigns(plusZero, leastSmall, 3, greatestSmall, leastNormal, leastNormal+1, 0x1F800000, 0x33000000, 0x33800000, 0x3F7FFFFF,
		half, one, one+1, 0x3FC00000, two, 0x40400000, four, 0x4B800001, 0x5F800000, 0x7E800000, 0x7F000000, greatest-1, greatest)
}

func edges() []uint32 { return append(append(finites(), infinity, infinity|sign), nans()...) }

// keyOf: DOC.md's words.
func keyOf(s uint32) uint32 {
	if s&sign == 0 {
		return s + sign
	}
	return math.MaxUint32 - s
}

func leastTold(a, b uint32) uint32 {
	if keyOf(a) < keyOf(b) {
		return a
	}
	return b
}

func greatestTold(a, b uint32) uint32 {
	if keyOf(a) > keyOf(b) {
		return a
	}
	return b
}

// chance: the same samples at each run; as many of each exponent, and many with a short fraction, so that halves come up.
func chance(seed int64) func() uint32 {
	r := rand.New(rand.NewSource(seed))
	return func() uint32 {
		s := r.Uint32()
		return s &^ (1<<r.Intn(24) - 1)
	}
}

// near: a sample of an exponent close to that of s.
func near(s, other uint32) uint32 {
	e := int(s>>23&255) + int(other>>23&31) - 16
	return other&^uint32(255<<23) | uint32(max(0, min(e, 254)))<<23
}

// wrongSpaces: numbers that are no space, also such as a shorter number would take for one.
func wrongSpaces() []int {
	return []int{-1, 5, -2, 6, 255, 256, 257, 1 << 32, 1<<32 + 1, 1<<32 + 3, -1 << 32, math.MinInt, math.MinInt + 1, math.MaxInt}
}
