package arith_test

import (
	"math/big"
	"math/rand"
	"sort"
	"testing"
)

// Samples that the chapter names, of the sign +.
const (
	plusZero      = 0x00000000
	minusZero     = 0x80000000
	leastSmall    = 0x00000001
	greatestSmall = 0x007FFFFF
	leastNormal   = 0x00800000
	half          = 0x3F000000
	one           = 0x3F800000
	two           = 0x40000000
	greatest      = 0x7F7FFFFF
	infinity      = 0x7F800000
	leastNaN      = 0x7F800001
	made          = 0x7FC00000
	lastNaN       = 0x7FFFFFFF
	sign          = 0x80000000
)

func bothSigns(above ...uint32) []uint32 {
	var all []uint32
	for _, s := range above {
		all = append(all, s, s|sign)
	}
	return all
}

func nans() []uint32 {
	return bothSigns(leastNaN, 0x7FBFFFFF, made, made+1, lastNaN)
}

// numbers: edges that are no NaN, of both signs.
func numbers() []uint32 {
	return bothSigns(plusZero, leastSmall, 2, 3, 0x00400000, greatestSmall, leastNormal, leastNormal+1, 0x00FFFFFF, 0x01000000,
		0x1FB504F3, 0x20000000, 0x33800000, 0x33800001, 0x34000000, 0x3EFFFFFF, half, 0x3F000001, 0x3F7FFFFF, one, one+1, one+2, 0x3FC00000,
		two, 0x40200000, 0x40400000, 0x4B7FFFFF, 0x4B800000, 0x4B800001, 0x5EFFFFFF, 0x5F000000, 0x72FFFFFF, 0x73000000, 0x7F000000, greatest-1, greatest, infinity)
}

// edges: numbers and NaNs.
func edges() []uint32 { return append(numbers(), nans()...) }

// someEdges: few enough for triples.
func someEdges() []uint32 {
	return bothSigns(plusZero, leastSmall, 3, greatestSmall, leastNormal, 0x20000000, 0x337FFE00, 0x33800000, half, one, one+1, 0x3F800100, 0x40400000, 0x73000000, greatest, infinity, leastNaN, made)
}

// chance: the same samples at each run; as many of each exponent, and many with a short fraction, so that halves come up.
func chance(seed int64) func() uint32 {
	r := rand.New(rand.NewSource(seed))
	return func() uint32 {
		s := r.Uint32()
		return s &^ (1<<r.Intn(24) - 1)
	}
}

// near: a sample of an exponent close to that of s.
func near(s, other uint32) uint32 {
	e := int(s>>23&255) + int(other>>23&31) - 16
	return other&^uint32(255<<23) | uint32(max(0, min(e, 254)))<<23
}

func isNaN(s uint32) bool      { return s&^uint32(sign) > infinity }
func isInfinite(s uint32) bool { return s&^uint32(sign) == infinity }
func isNought(s uint32) bool   { return s&^uint32(sign) == 0 }
func signOf(s uint32) uint32   { return s & sign }

func power(e int) *big.Rat {
	two := big.NewInt(2)
	if e < 0 {
		return new(big.Rat).SetFrac(big.NewInt(1), two.Exp(two, big.NewInt(int64(-e)), nil))
	}
	return new(big.Rat).SetInt(two.Exp(two, big.NewInt(int64(e)), nil))
}

// numberOf: negative or not, n times 2^e.
func numberOf(negative bool, n uint64, e int) *big.Rat {
	x := new(big.Rat).SetInt(new(big.Int).SetUint64(n))
	x.Mul(x, power(e))
	if negative {
		x.Neg(x)
	}
	return x
}

// exact: a finite sample's value, read from its bits.
func exact(s uint32) *big.Rat {
	n, e := uint64(s&(1<<23-1)), int(s>>23&255)
	if e > 0 {
		n |= 1 << 23
		e--
	}
	return numberOf(signOf(s) != 0, n, e-149)
}

// exactWide: a finite binary64's value, read from its bits.
func exactWide(w uint64) *big.Rat {
	n, e := w&(1<<52-1), int(w>>52&2047)
	if e > 0 {
		n |= 1 << 52
		e--
	}
	return numberOf(w>>63 != 0, n, e-1074)
}

// fromSize: the greatest sample of the sign + for which not above(its value) holds; above goes from no to yes once.
func fromSize(above func(*big.Rat) bool) uint32 {
	return uint32(sort.Search(greatest, func(i int) bool { return above(exact(uint32(i) + 1)) }))
}

// rounded: as P2.1 says it, word by word: of a number other than 0.
func rounded(x *big.Rat) uint32 {
	minus := uint32(0)
	if x.Sign() < 0 {
		minus = sign
	}
	size := new(big.Rat).Abs(x)
	if size.Cmp(new(big.Rat).Sub(power(128), power(103))) >= 0 {
		return minus | infinity
	}
	below := fromSize(func(v *big.Rat) bool { return v.Cmp(size) > 0 })
	if below == greatest {
		return minus | greatest
	}
	down := new(big.Rat).Sub(size, exact(below))
	up := new(big.Rat).Sub(exact(below+1), size)
	if c := down.Cmp(up); c > 0 || c == 0 && below%2 == 1 {
		below++
	}
	return minus | below
}

func check(t *testing.T, call string, got, want uint32, of ...uint32) {
	t.Helper()
	if got != want {
		t.Fatalf("%s(%08X): %08X, want %08X", call, of, got, want)
	}
}
