package space_test

import (
	"math/big"
	"slices"
	"testing"

	"halide/space"
)

const octave = 1 << 23

// What P7.2 says, word by word, by whole numbers.

func logTold(x uint32) uint32 {
	switch {
	case isNaN(x) || x > minusZero:
		return made
	case x == plusZero || x == minusZero:
		return infinity | sign
	case x == infinity:
		return x
	}
	n := int64(x) - 127*octave
	f, _ := big.NewRat(n, octave).Float32()
	return sampleOf(f)
}

func expTold(y uint32) uint32 {
	switch {
	case isNaN(y):
		return made
	case valueOf(y) >= 128:
		return infinity
	case valueOf(y) < -127:
		return plusZero
	}
	x := exact(y)
	return uint32(nearest(x.Mul(x, big.NewRat(octave, 1))) + 127*octave)
}

// nearest: the nearest whole number, of two the even one.
func nearest(x *big.Rat) int64 {
	below := new(big.Int).Div(x.Num(), x.Denom()) // rounded down: what it is divided by is above 0
	rest := new(big.Rat).Sub(x, new(big.Rat).SetInt(below))
	n := below.Int64()
	if c := rest.Cmp(big.NewRat(1, 2)); c > 0 || c == 0 && n%2 != 0 {
		n++
	}
	return n
}

// powersAbout: all powers of two that are samples, of both signs, and those next to them.
func powersAbout() []uint32 {
	var all []uint32
	for i := range uint32(23) {
		all = append(all, about(1<<i)...)
	}
	for e := range uint32(255) {
		all = append(all, about((e+1)<<23)...)
	}
	for _, s := range all {
		all = append(all, s^sign)
	}
	return all
}

func TestP7_2Log(t *testing.T) {
	for _, x := range append(strewn(), powersAbout()...) {
		check(t, "Log", space.Log(x), logTold(x), x)
	}
}

func TestP7_2LogAtEdges(t *testing.T) {
	for _, x := range append(nans(), infinity|sign, greatest|sign, one|sign, leastNormal|sign, leastSmall|sign) {
		check(t, "Log", space.Log(x), made, x)
	}
	for _, c := range []struct{ x, want uint32 }{
		{plusZero, infinity | sign},
		{minusZero, infinity | sign},
		{infinity, infinity},
		{leastSmall, sampleOf(-127)},
		{32, sampleOf(-127)}, // a tie, to even
		{33, sampleOf(-127 + 0x1p-17)},
		{96, sampleOf(-127 + 0x1p-16)}, // a tie, to even
		{greatestSmall, sampleOf(-126)},
		{leastNormal, sampleOf(-126)},
		{0x00C00000, sampleOf(-125.5)},
		{quarter - 1, sampleOf(-2)},
		{quarter, sampleOf(-2)},
		{quarter + 1, sampleOf(-2 + 0x1p-23)},
		{half, sampleOf(-1)},
		{one - 1, sampleOf(-0x1p-23)},
		{one, plusZero},
		{one + 1, sampleOf(0x1p-23)},
		{two, one},
		{four - 1, sampleOf(2 - 0x1p-23)},
		{four, two},
		{four + 1, two}, // a tie, to even
		{greatest - 32, sampleOf(128 - 0x1p-17)},
		{greatest - 31, sampleOf(128)}, // a tie, to even
		{greatest, sampleOf(128)},
	} {
		check(t, "Log", space.Log(c.x), c.want, c.x)
	}
}

// midway: samples halfway between two whole numbers times 2^-23, and those next to them; of both signs.
func midway() []uint32 {
	var all []uint32
	for _, n := range []int{0, 1, 2, 3, 4, 5, 6, 7, 100, 101, 4095, 4096, 1<<22 - 1, 1<<22 - 2, 1 << 20, 1<<20 + 1} {
		for _, s := range about(sampleOf(float32(2*n+1) * 0x1p-24)) {
			all = append(all, s, s^sign)
		}
	}
	return all
}

func TestP7_2Exp(t *testing.T) {
	all := append(strewn(), powersAbout()...)
	next := chance(72)
	for range 100000 {
		all = append(all, near(one, next()), near(sampleOf(0x1p-20), next()))
	}
	for _, y := range append(all, midway()...) {
		check(t, "Exp", space.Exp(y), expTold(y), y)
	}
}

func TestP7_2ExpAtEdges(t *testing.T) {
	for _, y := range nans() {
		check(t, "Exp", space.Exp(y), made, y)
	}
	top, low := sampleOf(128), sampleOf(-127)
	for _, c := range []struct{ y, want uint32 }{
		{infinity, infinity},
		{infinity | sign, plusZero},
		{greatest, infinity},
		{greatest | sign, plusZero},
		{top - 1, infinity - 64},
		{top, infinity},
		{top + 1, infinity},
		{low - 1, 64},
		{low, plusZero},
		{low + 1, plusZero},
		{sampleOf(-126), leastNormal},
		{sampleOf(-126.5), 0x00400000},
		{sampleOf(127), 0x7F000000},
		{plusZero, one},
		{minusZero, one},
		{leastSmall, one},
		{leastSmall | sign, one},
		{sampleOf(0x1p-24), one},                  // 1/2: to even
		{sampleOf(0x1p-24) + 1, one + 1},          // just above
		{sampleOf(0x3p-24), one + 2},              // 3/2: to even
		{sampleOf(0x3p-24) - 1, one + 1},          // just below
		{sampleOf(0x5p-24), one + 2},              // 5/2: to even
		{sampleOf(-0x1p-24), one},                 // -1/2: to even
		{sampleOf(-0x1p-24) + 1, one - 1},         // just below
		{sampleOf(-0x3p-24), one - 2},             // -3/2: to even
		{sampleOf(-0x5p-24), one - 2},             // -5/2: to even
		{sampleOf(0.5 + 0x1p-24), 0x3FC00000},     // 2^22 + 1/2: to even
		{sampleOf(0.5 + 0x3p-24), 0x3FC00000 + 2}, // 2^22 + 3/2: to even
		{sampleOf(-0.5), 0x3F400000},
		{one, two},
		{one | sign, half},
	} {
		check(t, "Exp", space.Exp(c.y), c.want, c.y)
	}
}

// rising: numbers and infinities by value; of the noughts one.
func rising(all []uint32) []uint32 {
	all = slices.DeleteFunc(slices.Clone(all), func(s uint32) bool { return isNaN(s) || s == minusZero })
	slices.SortFunc(all, func(a, b uint32) int { return int(keyOf(a)) - int(keyOf(b)) })
	return slices.Compact(all)
}

func TestP7_7LogRises(t *testing.T) {
	last := uint32(infinity | sign)
	for _, x := range rising(append(strewn(), powersAbout()...)) {
		if x&sign != 0 {
			continue
		}
		y := space.Log(x)
		if isNaN(y) || valueOf(y) < valueOf(last) {
			t.Fatalf("Log falls from %08X to %08X at %08X", last, y, x)
		}
		last = y
	}
	if last != infinity {
		t.Errorf("Log comes to %08X", last)
	}
}

func TestP7_7ExpRises(t *testing.T) {
	last := uint32(plusZero)
	for _, y := range rising(slices.Concat(strewn(), powersAbout(), midway())) {
		x := space.Exp(y)
		if isNaN(x) || valueOf(x) < valueOf(last) {
			t.Fatalf("Exp falls from %08X to %08X at %08X", last, x, y)
		}
		last = x
	}
	if last != infinity {
		t.Errorf("Exp comes to %08X", last)
	}
}

func TestP7_7ExpOfLog(t *testing.T) {
	for _, x := range append(strewn(), powersAbout()...) {
		if x == plusZero || x >= infinity {
			continue
		}
		if back := space.Exp(space.Log(x)); isNaN(back) || keysApart(back, x) > 32 {
			t.Fatalf("Exp(Log(%08X)): %08X", x, back)
		}
	}
	for x := uint32(quarter); x < four; x += 7 {
		check(t, "Exp of Log", space.Exp(space.Log(x)), x, x)
	}
	check(t, "Exp of Log", space.Exp(space.Log(four)), four, four)
}

func TestP7_7LogOfExp(t *testing.T) {
	all := slices.Concat(strewn(), powersAbout(), midway(), about(sampleOf(128)), about(sampleOf(-127)))
	for k := keyOf(one); k < keyOf(sampleOf(128)); k += 997 {
		all = append(all, ofKey(k), ofKey(k)^sign)
	}
	for _, y := range all {
		v := valueOf(y)
		if isNaN(y) || v <= -127 || v >= 128 {
			continue
		}
		back := space.Log(space.Exp(y))
		if v >= 1 || v <= -1 {
			check(t, "Log of Exp", back, y, y)
		}
		if !isFinite(back) {
			t.Fatalf("Log(Exp(%08X)): %08X", y, back)
		}
		d := exact(back)
		if d.Sub(d, exact(y)).Abs(d).Cmp(power(-24)) > 0 {
			t.Fatalf("Log(Exp(%08X)): %08X: too far off", y, back)
		}
	}
}

func TestP7_7LogOfPowers(t *testing.T) {
	for k := -126; k <= 127; k++ {
		x := uint32(k+127) << 23
		check(t, "Log", space.Log(x), sampleOf(float32(k)), x)
		check(t, "Exp", space.Exp(sampleOf(float32(k))), x, sampleOf(float32(k)))
	}
}

func TestP7_8LogsBounds(t *testing.T) {
	for _, x := range append(strewn(), powersAbout()...) {
		if isNaN(x) || x > minusZero {
			continue
		}
		y := space.Log(x)
		endless := x&^uint32(sign) == 0 || x == infinity
		if isNaN(y) || isFinite(y) == endless || !endless && (valueOf(y) < -127 || valueOf(y) > 128) {
			t.Fatalf("Log(%08X): %08X", x, y)
		}
	}
}
