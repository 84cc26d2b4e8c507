package arith_test

import (
	"math"
	"math/big"
	"testing"

	"halide/api"
	"halide/arith"
)

// wholes: about each power of two, and about the halves between two samples there.
func wholes() []int64 {
	all := []int64{0, math.MaxInt64, math.MaxInt64 - 1, math.MinInt64, math.MinInt64 + 1, 9007199791611905, 16777217, 16777219}
	for e := range 63 {
		p := int64(1) << e
		for _, n := range []int64{p, p + 1, p - 1, p + p/2, p + p>>23, p + p>>24, p + p>>24 + 1, p + p>>24 - 1, p + p>>23 + p>>24, p + p>>23 + p>>24 - 1, p + p>>23 + p>>24 + 1, p - p>>25, p - p>>25 - 1, p - p>>25 + 1} {
			all = append(all, n, -n)
		}
	}
	return append(all, math.MaxInt64-1<<38+1, math.MaxInt64-1<<38, math.MaxInt64-1<<38+2, math.MinInt64+1<<38, math.MinInt64+1<<38-1, math.MinInt64+1<<38+1)
}

func fromIntTold(n int64) uint32 {
	if n == 0 {
		return plusZero
	}
	return rounded(new(big.Rat).SetInt64(n))
}

func TestP2_5FromInt(t *testing.T) {
	for _, n := range wholes() {
		if got, want := arith.FromInt(n), fromIntTold(n); got != want {
			t.Fatalf("FromInt(%d): %08X, want %08X", n, got, want)
		}
	}
	next := chance(5)
	for range 5000 {
		n := (int64(next())<<32 | int64(next())) >> (next() >> 26)
		if got, want := arith.FromInt(n), fromIntTold(n); got != want {
			t.Fatalf("FromInt(%d): %08X, want %08X", n, got, want)
		}
	}
}

// floorTold: the greatest whole number that isn't above a finite sample's value.
func floorTold(s uint32) *big.Int {
	x := exact(s)
	return new(big.Int).Div(x.Num(), x.Denom()) // (Div rounds down: the lower part is above 0)
}

// nearestTold: by the distances, of two the even one.
func nearestTold(s uint32) *big.Int {
	n := floorTold(s)
	above := exact(s)
	above.Sub(above, new(big.Rat).SetInt(n))
	if c := above.Cmp(big.NewRat(1, 2)); c > 0 || c == 0 && n.Bit(0) == 1 {
		n.Add(n, big.NewInt(1))
	}
	return n
}

func checkWhole(t *testing.T, call string, s uint32, n int64, e api.Errno, want *big.Int) {
	t.Helper()
	if !want.IsInt64() {
		if n != 0 || e != api.ErrArithRange {
			t.Fatalf("%s(%08X): %d, %d, want 0, ErrArithRange", call, s, n, e)
		}
		return
	}
	if n != want.Int64() || e != api.OK {
		t.Fatalf("%s(%08X): %d, %d, want %d", call, s, n, e, want)
	}
}

func TestP2_5FloorAndNearest(t *testing.T) {
	all := bothSigns(plusZero, leastSmall, greatestSmall, leastNormal, 0x3EFFFFFF, half, half+1, 0x3F7FFFFF, one, one+1, 0x3FBFFFFF, 0x3FC00000, 0x3FC00001, two, 0x40200000, 0x40600000,
		0x4AFFFFFF, 0x4AFFFFFE, 0x4B000001, 0x4B7FFFFF, 0x4B800000, 0x4B800001, 0x5EFFFFFF, 0x5F000000, 0x5F000001, 0x5F7FFFFF, 0x5F800000, 0x60000000, greatest)
	next := chance(55)
	for range 20000 {
		s := next()
		all = append(all, s, near(0x45000000, s), near(0x5E000000, s))
	}
	for _, s := range all {
		if isNaN(s) || isInfinite(s) {
			continue
		}
		n, e := arith.Floor(s)
		checkWhole(t, "Floor", s, n, e, floorTold(s))
		n, e = arith.Nearest(s)
		checkWhole(t, "Nearest", s, n, e, nearestTold(s))
	}
}

func TestP2_5Ranges(t *testing.T) {
	if api.ErrArithRange != 20 {
		t.Errorf("ErrArithRange: %d", api.ErrArithRange)
	}
	wrong := append(nans(), infinity, infinity|sign, 0x5F000000, 0x5F000001, 0xDF000001, 0x5F800000, 0xDF800000, greatest, greatest|sign)
	for _, s := range wrong {
		if n, e := arith.Floor(s); n != 0 || e != api.ErrArithRange {
			t.Errorf("Floor(%08X): %d, %d", s, n, e)
		}
		if n, e := arith.Nearest(s); n != 0 || e != api.ErrArithRange {
			t.Errorf("Nearest(%08X): %d, %d", s, n, e)
		}
	}
	for s, want := range map[uint32]int64{0x5EFFFFFF: math.MaxInt64 - 1<<39 + 1, 0xDF000000: math.MinInt64, 0xDEFFFFFF: math.MinInt64 + 1<<39, minusZero: 0} {
		if n, e := arith.Floor(s); n != want || e != api.OK {
			t.Errorf("Floor(%08X): %d, %d, want %d", s, n, e, want)
		}
		if n, e := arith.Nearest(s); n != want || e != api.OK {
			t.Errorf("Nearest(%08X): %d, %d, want %d", s, n, e, want)
		}
	}
}

func TestP2_5Halves(t *testing.T) {
	for _, c := range []struct {
		s              uint32
		floor, nearest int64
	}{
		{half, 0, 0}, {half | sign, -1, 0}, {0x3FC00000, 1, 2}, {0xBFC00000, -2, -2}, {0x40200000, 2, 2}, {0xC0200000, -3, -2},
		{half + 1, 0, 1}, {half - 1, 0, 0}, {(half + 1) | sign, -1, -1}, {leastSmall, 0, 0}, {leastSmall | sign, -1, 0}, {0x4AFFFFFF, 8388607, 8388608}, {0xCAFFFFFF, -8388608, -8388608},
	} {
		if n, e := arith.Floor(c.s); n != c.floor || e != api.OK {
			t.Errorf("Floor(%08X): %d, %d, want %d", c.s, n, e, c.floor)
		}
		if n, e := arith.Nearest(c.s); n != c.nearest || e != api.OK {
			t.Errorf("Nearest(%08X): %d, %d, want %d", c.s, n, e, c.nearest)
		}
	}
}

func TestP2_9NearestOfFromInt(t *testing.T) {
	for n := int64(-1 << 24); n <= 1<<24; n++ {
		if got, e := arith.Nearest(arith.FromInt(n)); got != n || e != api.OK {
			t.Fatalf("Nearest(FromInt(%d)): %d, %d", n, got, e)
		}
	}
}

func TestP2_9FloorBesideNearest(t *testing.T) {
	hold := func(s uint32) {
		floor, e := arith.Floor(s)
		nearest, f := arith.Nearest(s)
		if e != f {
			t.Fatalf("%08X: Floor's error %d, Nearest's %d", s, e, f)
		}
		if e == api.OK && floor != nearest && floor+1 != nearest {
			t.Fatalf("%08X: Floor %d, Nearest %d", s, floor, nearest)
		}
	}
	for _, s := range edges() {
		hold(s)
	}
	for s := uint64(0); s < 1<<32; s += 4999 {
		hold(uint32(s))
	}
}
