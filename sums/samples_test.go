package sums_test

import (
	"math"
	"math/big"
	"math/rand"
	"testing"
)

// Samples that the chapter names, of the sign +.
const (
	plusZero      = 0x00000000
	minusZero     = 0x80000000
	leastSmall    = 0x00000001
	greatestSmall = 0x007FFFFF
	leastNormal   = 0x00800000
	tiny          = 0x33800000 // 2^-24: half of the last bit of 1
	one           = 0x3F800000
	halfGreatest  = 0x73000000 // 2^103: half of the last bit of the greatest one
	greatest      = 0x7F7FFFFF
	infinity      = 0x7F800000
	leastNaN      = 0x7F800001
	made          = 0x7FC00000
	lastNaN       = 0x7FFFFFFF
	sign          = 0x80000000
	madeWide      = 0x7FF8000000000000
)

func bothSigns(above ...uint32) []uint32 {
	var all []uint32
	for _, s := range above {
		all = append(all, s, s|sign)
	}
	return all
}

func nans() []uint32 { return bothSigns(leastNaN, 0x7FBFFFFF, made, 0x7FC00009, lastNaN) }

// finites: noughts, subnormal and normal samples of both signs.
func finites() []uint32 {
	return bothSigns(plusZero, leastSmall, 3, 0x00400000, greatestSmall, leastNormal, 0x00FFFFFF, tiny, tiny+1, 0x3F7FFFFF, one, one+1, one+2, 0x40400000, 0x4B800001, 0x72FFFFFF, halfGreatest, 0x7F000000, greatest)
}

func edges() []uint32 { return append(append(finites(), infinity, infinity|sign), nans()...) }

// chance: the same samples at each run; as many of each exponent, and many with a short fraction, so that halves come up.
func chance(seed int64) func() uint32 {
	r := rand.New(rand.NewSource(seed))
	return func() uint32 {
		s := r.Uint32()
		return s &^ (1<<r.Intn(24) - 1)
	}
}

// kept: s brought among exponents from lo to lo + span - 1; its sign and its fraction stay.
func kept(s uint32, lo, span int) uint32 {
	e := lo + int(s>>23&255)%span
	return s&^uint32(255<<23) | uint32(e)<<23
}

// finiteLists: of finite samples: of one exponent and of all, cancelling, of noughts, subnormal ones, great ones.
func finiteLists(seed int64, longest int) [][]uint32 {
	next := chance(seed)
	var all [][]uint32
	for _, span := range []struct{ lo, span int }{{0, 1}, {0, 3}, {1, 2}, {120, 1}, {115, 20}, {100, 50}, {0, 255}, {250, 5}, {254, 1}} {
		for n := 1; n <= longest; n += 1 + n/4 {
			l := make([]uint32, n)
			for i := range l {
				l[i] = kept(next(), span.lo, span.span)
				if i > 0 && next()>>30 == 0 {
					l[i] = l[int(next()>>1)%i] ^ sign // something that came is gone again
				}
			}
			all = append(all, l)
		}
	}
	return all
}

// lists: none, one, two and three edges; lists of finite ones, as they are and with something else in between.
func lists() [][]uint32 {
	all := [][]uint32{nil, {}}
	for _, a := range edges() {
		all = append(all, []uint32{a}, []uint32{minusZero, a, minusZero}, []uint32{a, one, tiny})
		for _, b := range edges() {
			all = append(all, []uint32{a, b}, []uint32{a, b, a ^ sign}, []uint32{a, b, b, a, a ^ sign})
		}
	}
	next := chance(1)
	for _, l := range finiteLists(2, 40) {
		all = append(all, l)
		for _, s := range append(nans(), infinity, infinity|sign, minusZero) {
			at := int(next()>>1) % len(l)
			all = append(all, append(append(append([]uint32{}, l[:at]...), s), l[at:]...))
		}
	}
	return all
}

// longLists: tens of thousands of samples.
func longLists() [][]uint32 {
	next := chance(3)
	wide, near, great := make([]uint32, 40000), make([]uint32, 30000), make([]uint32, 20001)
	for i := range wide {
		wide[i] = kept(next(), 0, 255)
	}
	for i := range near {
		near[i] = kept(next(), 118, 12)
	}
	for i := range great {
		great[i] = greatest | uint32(i%2)<<31
	}
	return [][]uint32{wide, near, great}
}

func isNaN(s uint32) bool      { return s&^uint32(sign) > infinity }
func isInfinite(s uint32) bool { return s&^uint32(sign) == infinity }

func power(e int) *big.Rat {
	x := new(big.Int).Lsh(big.NewInt(1), uint(max(e, -e)))
	if e < 0 {
		return new(big.Rat).SetFrac(big.NewInt(1), x)
	}
	return new(big.Rat).SetInt(x)
}

// unitsOf: how many times 2^-149 a finite sample is, read from its bits.
func unitsOf(s uint32) *big.Int {
	n, e := int64(s&(1<<23-1)), uint(s>>23&255)
	if e > 0 {
		n |= 1 << 23
		e--
	}
	x := new(big.Int).Lsh(big.NewInt(n), e)
	if s&sign != 0 {
		x.Neg(x)
	}
	return x
}

func valueOfUnits(n *big.Int) *big.Rat {
	return new(big.Rat).SetFrac(n, new(big.Int).Lsh(big.NewInt(1), 149))
}

func valueOf(s uint32) *big.Rat { return valueOfUnits(unitsOf(s)) }

// partsOf: samples that sum to x, a whole number of 2^-149, exactly.
func partsOf(x *big.Rat) []uint32 {
	var l []uint32
	for left := new(big.Rat).Set(x); left.Sign() != 0; {
		s := rounded(left)
		if isInfinite(s) {
			s--
		}
		l = append(l, s)
		left.Sub(left, valueOf(s))
	}
	return l
}

// rounded: an exact number, by the library's own rounding of fractions.
func rounded(x *big.Rat) uint32 {
	f, _ := x.Float32()
	return math.Float32bits(f)
}

func rounded64(x *big.Rat) uint64 {
	f, _ := x.Float64()
	return math.Float64bits(f)
}

// few: so much of a list as an error may show.
func few(l []uint32) []uint32 { return l[:min(len(l), 8)] }

func check(t *testing.T, call string, got, want uint32, of []uint32) {
	t.Helper()
	if got != want {
		t.Fatalf("%s of %d samples %08X: %08X, want %08X", call, len(of), few(of), got, want)
	}
}

func check64(t *testing.T, call string, got, want uint64, of []uint32) {
	t.Helper()
	if got != want {
		t.Fatalf("%s of %d samples %08X: %016X, want %016X", call, len(of), few(of), got, want)
	}
}
