package space_test

import (
	"math"
	"math/big"
	"math/rand"
	"testing"
)

// Samples that the chapter names, of the sign +.
const (
	plusZero      = 0x00000000
	minusZero     = 0x80000000
	leastSmall    = 0x00000001
	greatestSmall = 0x007FFFFF
	leastNormal   = 0x00800000
	quarter       = 0x3E800000
	half          = 0x3F000000
	one           = 0x3F800000
	two           = 0x40000000
	four          = 0x40800000
	power100      = 0x71800000 // 2^100
	greatest      = 0x7F7FFFFF
	infinity      = 0x7F800000
	leastNaN      = 0x7F800001
	made          = 0x7FC00000
	lastNaN       = 0x7FFFFFFF
	sign          = 0x80000000
)

type three [3]uint32

func of(a, b, c uint32) three { return three{a, b, c} }

func sampleOf(f float32) uint32 { return math.Float32bits(f) }

func valueOf(s uint32) float64 { return float64(math.Float32frombits(s)) }

func isNaN(s uint32) bool    { return s&^uint32(sign) > infinity }
func isFinite(s uint32) bool { return s&^uint32(sign) < infinity }

func bothSigns(above ...uint32) []uint32 {
	var all []uint32
	for _, s := range above {
		all = append(all, s, s|sign)
	}
	return all
}

func nans() []uint32 { return bothSigns(leastNaN, 0x7FBFFFFF, made, made+9, lastNaN) }

// finites: edges, of both signs.
func finites() []uint32 {
	return bothSigns(plusZero, leastSmall, 2, 3, 0x00400000, greatestSmall, leastNormal, leastNormal+1, 0x21800000, 0x33000000, 0x33800000, 0x34000000,
		quarter, half, 0x3F7FFFFF, one, one+1, one+2, 0x3FC00000, two, 0x40400000, 0x4B800001, power100-1, power100, 0x7E800000, 0x7F000000, greatest-1, greatest)
}

func edges() []uint32 { return append(append(finites(), infinity, infinity|sign), nans()...) }

// keyOf and ofKey: DOC.md's words.
func keyOf(s uint32) uint32 {
	if s&sign == 0 {
		return s + sign
	}
	return math.MaxUint32 - s
}

func ofKey(k uint32) uint32 {
	if k >= sign {
		return k - sign
	}
	return math.MaxUint32 - k
}

// keysApart: how far, whichever is the greater one.
func keysApart(a, b uint32) int {
	d := int(keyOf(a)) - int(keyOf(b))
	return max(d, -d)
}

// about: a sample and those next to it, by key.
func about(s uint32) []uint32 {
	k := keyOf(s)
	return []uint32{ofKey(k - 2), ofKey(k - 1), s, ofKey(k + 1), ofKey(k + 2)}
}

// chance: the same samples at each run; as many of each exponent, and many with a short fraction, so that halves come up.
func chance(seed int64) func() uint32 {
	r := rand.New(rand.NewSource(seed))
	return func() uint32 {
		s := r.Uint32()
		return s &^ (1<<r.Intn(24) - 1)
	}
}

// near: a sample of an exponent close to that of s.
func near(s, other uint32) uint32 {
	e := int(s>>23&255) + int(other>>23&31) - 16
	return other&^uint32(255<<23) | uint32(max(0, min(e, 254)))<<23
}

// threes: triples of edges, of one sample, and by chance: far from one another, and near.
func threes(each func(c three)) {
	all := edges()
	for _, a := range all {
		for _, b := range all {
			for _, c := range all {
				each(three{a, b, c})
			}
		}
	}
	next := chance(7)
	for range 40000 {
		a, b, c := next(), next(), next()
		each(three{a, b, c})
		each(three{a, near(a, b), near(a, c)})
		each(three{a, b, b ^ c>>20})
		each(three{a, a, a})
	}
}

// strewn: samples by even steps, over all of them, and edges.
func strewn() []uint32 {
	all := edges()
	for s := uint64(0); s < 1<<32; s += 9973 {
		all = append(all, uint32(s))
	}
	return all
}

// exact: a finite sample's value.
func exact(s uint32) *big.Rat { return new(big.Rat).SetFloat64(valueOf(s)) }

func power(e int) *big.Rat { return new(big.Rat).SetFloat64(math.Ldexp(1, e)) }

func checkThree(t *testing.T, call string, got, want, c three) {
	t.Helper()
	if got != want {
		t.Fatalf("%s(%08X): %08X, want %08X", call, c, got, want)
	}
}

func check(t *testing.T, call string, got, want, s uint32) {
	t.Helper()
	if got != want {
		t.Fatalf("%s(%08X): %08X, want %08X", call, s, got, want)
	}
}
