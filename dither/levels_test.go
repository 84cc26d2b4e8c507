package dither_test

import (
	"math"
	"testing"

	"halide/api"
	"halide/dither"
)

func TestP13_1AllLevels(t *testing.T) {
	for n := 2; n <= 256; n++ {
		for k := range n {
			if s, e := dither.Level(n, k); e != api.OK || s != levelTold(n, k) {
				t.Fatalf("Level(%d, %d): %08X, %d, want %08X", n, k, s, e, levelTold(n, k))
			}
			if u, e := dither.Unit(n, k); e != api.OK || u != unitTold(n, k) {
				t.Fatalf("Unit(%d, %d): %d, %d, want %d", n, k, u, e, unitTold(n, k))
			}
		}
	}
}

func TestP13_1LevelsByHand(t *testing.T) {
	for _, c := range []struct {
		n, k int
		s    uint32
		u    int
	}{
		{2, 0, 0, 0}, {2, 1, one, 16777216}, {3, 2, one, 16777216}, {4, 1, 0x3EAAAAAB, 5592405}, {4, 2, 0x3F2AAAAB, 11184810},
		{6, 1, 0x3E4CCCCD, 3355443}, {256, 1, 0x3B808081, 65793}, {256, 254, 0x3F7EFEFF, 16711422}, {256, 255, one, 16777216}, {256, 0, 0, 0},
	} {
		if s, e := dither.Level(c.n, c.k); s != c.s || e != api.OK {
			t.Errorf("Level(%d, %d): %08X, %d, want %08X", c.n, c.k, s, e, c.s)
		}
		if u, e := dither.Unit(c.n, c.k); u != c.u || e != api.OK {
			t.Errorf("Unit(%d, %d): %d, %d, want %d", c.n, c.k, u, e, c.u)
		}
	}
}

func checkNoLevel(t *testing.T, n, k int) {
	t.Helper()
	if s, e := dither.Level(n, k); s != 0 || e != api.ErrDitherLevels {
		t.Fatalf("Level(%d, %d): %08X, %d", n, k, s, e)
	}
	if u, e := dither.Unit(n, k); u != 0 || e != api.ErrDitherLevels {
		t.Fatalf("Unit(%d, %d): %d, %d", n, k, u, e)
	}
}

func TestP13_1NoLevel(t *testing.T) {
	far := []int{-1, -2, -255, -256, 256, 257, 1 << 31, 1 << 32, 1<<32 + 1, math.MinInt, math.MinInt + 1, math.MaxInt}
	for n := 2; n <= 256; n++ {
		for _, k := range append(far, n, n+1, -n) {
			checkNoLevel(t, n, k)
		}
	}
	for _, n := range wrongLevels() {
		for _, k := range append(far, 0, 1, 2, 100, n, n-1) {
			checkNoLevel(t, n, k)
		}
	}
}

func checkUnits(t *testing.T, s uint32) {
	t.Helper()
	if got, want := dither.Units(s), unitsTold(s); got != want {
		t.Fatalf("Units(%08X): %d, want %d", s, got, want)
	}
}

func TestP13_1UnitsByHand(t *testing.T) {
	for _, c := range []struct {
		s    uint32
		want int
	}{
		{0, 0}, {minusZero, 0}, {one | sign, 0}, {half | sign, 0}, {greatest | sign, 0}, {infinity | sign, 0}, {1 | sign, 0},
		{made, 0}, {made | sign, 0}, {infinity + 1, 0}, {infinity + 1 | sign, 0}, {0x7FFFFFFF, 0}, {0xFFFFFFFF, 0},
		{one, whole}, {one + 1, whole}, {two, whole}, {greatest, whole}, {infinity, whole},
		{one - 1, whole - 1}, {half, whole / 2}, {half - 1, whole / 2}, {half - 2, whole/2 - 1}, {half - 3, whole/2 - 2}, {half + 1, whole/2 + 1},
		{1, 0}, {0x007FFFFF, 0}, {0x00800000, 0},
		{sampleOf(0x1p-24), 1}, {sampleOf(0x1p-25), 0}, {sampleOf(0x1p-25) - 1, 0}, {sampleOf(0x1p-25) + 1, 1},
		{sampleOf(0x3p-25), 2}, {sampleOf(0x3p-25) - 1, 1}, {sampleOf(0x3p-25) + 1, 2}, {sampleOf(0x5p-25), 2}, {sampleOf(0x5p-25) + 1, 3}, {sampleOf(0x7p-25), 4},
	} {
		if got := dither.Units(c.s); got != c.want {
			t.Errorf("Units(%08X): %d, want %d", c.s, got, c.want)
		}
	}
}

// About ties and whole numbers of units, all through the powers.
func TestP13_1Units(t *testing.T) {
	for _, s := range edges() {
		checkUnits(t, s)
	}
	for power := range 27 {
		for m := range 40 {
			s := sampleOf(float64(m+1) / float64(uint(1)<<power))
			for _, near := range []uint32{s - 2, s - 1, s, s + 1, s + 2} {
				checkUnits(t, near)
			}
		}
	}
	next := chance(1)
	for range 20000 {
		checkUnits(t, next())
		checkUnits(t, next()%one)
		checkUnits(t, 0x32000000+next()%(one-0x32000000))
	}
	for i := range uint32(1 << 12) { // halves and thirds of units are there below 2^-1
		checkUnits(t, half-i)
		checkUnits(t, 0x3E800000-i)
		checkUnits(t, one-i)
	}
}

// By value Units never falls, from below 0 to above 1.
func TestP13_1UnitsRise(t *testing.T) {
	before := 0
	for s := uint32(0); s <= two; s += 4099 {
		u := dither.Units(s)
		if u < before {
			t.Fatalf("Units(%08X): %d, below %d", s, u, before)
		}
		before = u
	}
}

func checkNearest(t *testing.T, n int, units []int, v int) {
	t.Helper()
	if k, e := dither.Nearest(n, v); e != api.OK || k != nearestTold(units, v) {
		t.Fatalf("Nearest(%d, %d): %d, %d, want %d", n, v, k, e, nearestTold(units, v))
	}
}

// At each unit, about it, and about midway to the next one.
func TestP13_2Nearest(t *testing.T) {
	for n := 2; n <= 256; n++ {
		units := unitsOf(n)
		for k, u := range units {
			if n > 20 && k > 3 && k < n-3 && k%7 != 0 {
				continue
			}
			for _, v := range []int{u - 1, u, u + 1, u + whole/(n-1)/2 - 1, u + whole/(n-1)/2, u + whole/(n-1)/2 + 1, u + whole/(n-1)/2 + 2} {
				checkNearest(t, n, units, v)
			}
		}
	}
}

// Any int: also where differences go round.
func TestP13_2NearestOfFarNumbers(t *testing.T) {
	for _, n := range someLevels() {
		units := unitsOf(n)
		for _, v := range []int{-1, -2, -whole, whole, whole + 1, 2 * whole, 1 << 31, 1 << 32, -1 << 32, math.MinInt, math.MinInt + 1, math.MinInt + whole, math.MaxInt - whole, math.MaxInt - 1, math.MaxInt} {
			checkNearest(t, n, units, v)
		}
		next := chance(uint64(n))
		for range 300 {
			checkNearest(t, n, units, int(next()%(whole+2)))
			checkNearest(t, n, units, int(uint64(next())<<32|uint64(next())))
		}
	}
}

// Of two at the same distance the least one.
func TestP13_2NearestMidway(t *testing.T) {
	for _, c := range [][3]int{{2, whole / 2, 0}, {2, whole/2 + 1, 1}, {3, whole / 4, 0}, {3, whole/4 + 1, 1}, {3, 3 * whole / 4, 1}, {3, 3*whole/4 + 1, 2}, {5, whole / 8, 0}, {4, 2796202, 0}, {4, 2796203, 1}} {
		if k, e := dither.Nearest(c[0], c[1]); k != c[2] || e != api.OK {
			t.Errorf("Nearest(%d, %d): %d, %d, want %d", c[0], c[1], k, e, c[2])
		}
	}
}

func TestP13_2NoLevels(t *testing.T) {
	for _, n := range wrongLevels() {
		for _, v := range []int{0, 1, -1, whole, math.MinInt, math.MaxInt} {
			if k, e := dither.Nearest(n, v); k != 0 || e != api.ErrDitherLevels {
				t.Fatalf("Nearest(%d, %d): %d, %d", n, v, k, e)
			}
		}
	}
}
