package stat_test

import (
	"fmt"
	"testing"

	"halide/api"
	"halide/stat"
)

func TestP16_6Level(t *testing.T) {
	for _, p := range allPlanes() {
		for bits := 1; bits <= 12; bits++ {
			got, e := stat.Level(p, bits)
			checkPlane(t, fmt.Sprintf("Level of %d bits", bits), got, e, levelTold(p, bits))
		}
	}
}

func TestP16_6LevelOfGreatPlanes(t *testing.T) {
	for i, z := range greatSizes() {
		next := chance(uint64(166 + i))
		all := edges()
		for _, p := range []api.Plane{filled(z[0], z[1], next), filled(z[0], z[1], func() uint32 { return oneOf(all, next) }), counted(z[0], z[1]), allOf(z[0], z[1], infinity)} {
			for _, bits := range []int{1, 8, 12} {
				got, e := stat.Level(p, bits)
				checkPlane(t, fmt.Sprintf("Level of %d bits", bits), got, e, levelTold(p, bits))
			}
		}
	}
}

func TestP16_6ByHand(t *testing.T) {
	const third, twoThirds = 0x3EAAAAAB, 0x3F2AAAAB
	for _, c := range []struct {
		what    string
		bits    int
		l, want []uint32
	}{
		{"one sample", 12, []uint32{minusZero}, []uint32{one}},
		{"by sign alone", 1, []uint32{0, minusZero, infinity, greatest | sign}, []uint32{one, half, one, half}},
		{"-0 ahead of +0", 12, []uint32{0, minusZero}, []uint32{one, half}},
		{"thirds", 12, []uint32{four, one, two}, []uint32{one, third, twoThirds}},
		{"infinities", 12, []uint32{infinity, infinity | sign, 0}, []uint32{one, third, twoThirds}},
		{"one class", 1, []uint32{one, two, 0}, []uint32{one, one, one}},
		{"the sign and the exponent", 9, []uint32{one, one + 1, two}, []uint32{twoThirds, twoThirds, one}},
		{"and three bits of the fraction", 12, []uint32{one, one + 0xFFFFF, one + 0x100000}, []uint32{twoThirds, twoThirds, one}},
		{"and two of them", 11, []uint32{one, one + 0x100000, one + 0x200000}, []uint32{twoThirds, twoThirds, one}},
	} {
		got, e := stat.Level(rowOf(c.l...), c.bits)
		checkPlane(t, c.what, got, e, rowOf(c.want...))
	}
}

// NaNs are copied and don't count, though they share a class with others where the bits are few.
func TestP16_6NaNs(t *testing.T) {
	for bits := 1; bits <= 12; bits++ {
		got, e := stat.Level(rowOf(nans()...), bits)
		checkPlane(t, "of NaNs alone", got, e, rowOf(nans()...))
		for _, s := range append(finites(), infinities()...) {
			got, e = stat.Level(rowOf(append(nans(), s)...), bits)
			checkPlane(t, "of NaNs and one that is none", got, e, rowOf(append(nans(), one)...))
		}
		got, e = stat.Level(rowOf(0xFFFFFFFF, one|sign, infinity+1, one, infinity+1|sign), bits)
		checkPlane(t, "of NaNs and two others", got, e, rowOf(0xFFFFFFFF, half, infinity+1, one, infinity+1|sign))
	}
}

// Ahead of a wrong number of bits.
func TestP16_6NoPlane(t *testing.T) {
	for _, c := range refusedPlanes() {
		for _, bits := range append(wrongBits(), 1, 12) {
			got, e := stat.Level(c.p, bits)
			checkNone(t, fmt.Sprintf("Level of %d by %d, %d", c.p.W, c.p.H, bits), got, e, c.want)
		}
	}
}

func TestP16_6NoBits(t *testing.T) {
	for _, p := range []api.Plane{allOf(1, 1, one), counted(3, 2), allOf(1024, 64, made)} {
		for _, bits := range wrongBits() {
			got, e := stat.Level(p, bits)
			checkNone(t, fmt.Sprintf("Level of %d", bits), got, e, api.ErrStatBits)
		}
	}
}
