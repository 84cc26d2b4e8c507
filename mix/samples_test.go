package mix_test

import (
	"math"
	"slices"
)

const (
	sign        = 0x80000000
	minusZero   = 0x80000000
	leastSmall  = 0x00000001
	leastNormal = 0x00800000
	eighth      = 0x3E000000
	quarter     = 0x3E800000
	half        = 0x3F000000
	one         = 0x3F800000
	two         = 0x40000000
	three       = 0x40400000
	four        = 0x40800000
	greatest    = 0x7F7FFFFF
	infinity    = 0x7F800000
	made        = 0x7FC00000
)

// power: 2 to the e, of a normal sample.
func power(e int) uint32 { return uint32(e+127) << 23 }

func bothSigns(l ...uint32) []uint32 {
	var all []uint32
	for _, s := range l {
		all = append(all, s, s|sign)
	}
	return all
}

// finites: noughts, subnormal and normal samples, some about 1, the greatest ones too.
func finites() []uint32 {
	return bothSigns(0, leastSmall, 3, 0x007FFFFF, leastNormal, power(-60), power(-24), 0x3EAAAAAB, half, one-1, one, one+1, 0x40490FDB, power(60), greatest-1, greatest)
}

func nans() []uint32 { return bothSigns(infinity+1, made-1, made, made+1, made+9, 0x7FFFFFFF) }

func edges() []uint32 { return slices.Concat(finites(), bothSigns(infinity), nans()) }

// fewEdges: such that all fours of them can be gone through.
func fewEdges() []uint32 {
	return append(bothSigns(0, leastSmall, 0x3EAAAAAB, one, one+1, greatest, infinity), two, made, made+9|sign)
}

// alphas: from 0 to 1 by value.
func alphas() []uint32 {
	return []uint32{0, minusZero, leastSmall, leastNormal, power(-54), power(-53), power(-25), power(-24), power(-23), 0x3EAAAAAB, half - 1, half, half + 1, 0x3F2AAAAB, one - 2, one - 1, one}
}

func isNaN(s uint32) bool    { return s&^uint32(sign) > infinity }
func isFinite(s uint32) bool { return s&^uint32(sign) < infinity }

// value: of a sample that is no NaN.
func value(s uint32) float64 { return float64(math.Float32frombits(s)) }

func sampleOf(f float64) uint32 { return math.Float32bits(float32(f)) }

// key: DOC.md's words.
func key(s uint32) int {
	if s < sign {
		return int(s) + sign
	}
	return math.MaxUint32 - int(s)
}

// chance: numbers that look as if by chance, the same ones each time.
func chance(seed uint64) func() uint32 {
	return func() uint32 {
		seed = seed*6364136223846793005 + 1442695040888963407
		return uint32(seed >> 32)
	}
}

// finiteByChance: of all exponents that are finite.
func finiteByChance(next func() uint32) uint32 {
	s := next()
	if !isFinite(s) {
		s ^= 0x00800000
	}
	return s
}

// oneOf: of a list, by chance.
func oneOf(l []uint32, next func() uint32) uint32 { return l[next()%uint32(len(l))] }

// near: by chance from 1 to 2, both signs.
func near(next func() uint32) uint32 { return next()&0x807FFFFF | one }

// about: by chance, of so many exponents below 1 as above it.
func about(exponents uint32, next func() uint32) uint32 {
	return next()&0x807FFFFF | (127-exponents+next()%(2*exponents))<<23
}

// share: by chance from 0 to 1, the ends too, some as near to 0 as to 1.
func share(next func() uint32) uint32 {
	switch next() % 8 {
	case 0:
		return oneOf(alphas(), next)
	case 1:
		return next() % (one + 1)
	case 2:
		return one - next()>>(8+next()%24)
	}
	return sampleOf(float64(next()) / (1 << 32))
}

// upTo: by chance, from 0 to a share.
func upTo(a uint32, next func() uint32) uint32 {
	switch next() % 4 {
	case 0:
		return a
	case 1:
		return uint32(0)
	}
	return min(sampleOf(value(a)*float64(next())/(1<<32)), a&^uint32(sign))
}
