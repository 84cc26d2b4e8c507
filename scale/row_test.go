package scale_test

import (
	"slices"
	"testing"

	"halide/api"
	"halide/scale"
)

func checkRowTold(t *testing.T, l []uint32, kind, to int) {
	t.Helper()
	got, e := scale.Row(l, kind, to)
	checkRow(t, "Row", got, e, rowTold(l, kind, to))
}

func checkRowRefused(t *testing.T, l []uint32, kind, to int, want api.Errno) {
	t.Helper()
	if got, e := scale.Row(l, kind, to); e != want || len(got) != 0 {
		t.Fatalf("Row of %d samples, %d, %d: %d samples, %d, want none and %d", len(l), kind, to, len(got), e, want)
	}
}

func TestP10_1EverySmallSize(t *testing.T) {
	next := chance(1)
	for _, kind := range kinds() {
		for from := 1; from <= 20; from++ {
			for to := (from + 14) / 15; to <= 20; to++ {
				checkRowTold(t, rowOf(from, func() uint32 { return near(next) }), kind, to)
				checkRowTold(t, rowOf(from, func() uint32 { return finiteByChance(next) }), kind, to)
				checkRowTold(t, rowOf(from, func() uint32 { return edges()[next()%uint32(len(edges()))] }), kind, to)
			}
		}
	}
}

// From one sample to MaxSide, and back as far as Taps goes.
func TestP10_1GreatSizes(t *testing.T) {
	next := chance(2)
	for _, kind := range kinds() {
		for _, z := range [][2]int{{1, 1}, {1, 1024}, {1, 1023}, {2, 1024}, {1024, 1024}, {1023, 1024}, {1024, 1023}, {1024, 512}, {1024, 69}, {1020, 68}, {15, 1}, {30, 2}, {640, 480}, {97, 891}} {
			l := rowOf(z[0], func() uint32 { return near(next) })
			checkRowTold(t, l, kind, z[1])
			checkRow(t, "Row, reckoned", must(scale.Row(l, kind, z[1])), api.OK, rowReckoned(l, kind, z[1]))
		}
	}
}

// The sums are reckoned in binary64 and rounded once, in the places' order: told by numbers that don't come from layers 3 and 9.
func TestP10_1ByHand(t *testing.T) {
	const tiny = 0x33800000 // 2^-24
	for _, c := range []struct {
		l        []uint32
		kind, to int
		want     []uint32
	}{
		{[]uint32{one, three}, api.Box, 1, []uint32{two}},
		{[]uint32{one, two, four, four}, api.Tent, 2, []uint32{0x3FE00000, 0x40700000}}, // 1 * 32768 + 2 * 24576 + 4 * 8192; 2 * 8192 + 4 * 24576 + 4 * 32768
		{[]uint32{0, one}, api.Cubic, 4, []uint32{0xBD900000, 0x3E500000, 0x3F4C0000, 0x3F890000}},
		{[]uint32{one, one + 1}, api.Box, 1, []uint32{one}},                // a tie
		{[]uint32{one + 1, one + 2}, api.Box, 1, []uint32{one + 2}},        // a tie, the other way
		{[]uint32{one, tiny}, api.Box, 1, []uint32{0x3F000000}},            // half of 1 and 2^-24: 2^-25 is a tie there
		{[]uint32{one, tiny + 1}, api.Box, 1, []uint32{0x3F000001}},        // just more
		{[]uint32{leastSmall, 0}, api.Box, 1, []uint32{0}},                 // half of the least one: a tie
		{[]uint32{leastSmall, 2}, api.Box, 1, []uint32{2}},                 // 1.5 times the least one
		{[]uint32{greatest, greatest}, api.Box, 1, []uint32{greatest}},     // a sum of samples would be an infinity
		{[]uint32{greatest, greatest | sign}, api.Box, 1, []uint32{0}},     // +0
		{[]uint32{minusZero, minusZero}, api.Box, 1, []uint32{minusZero}},  // -0, as all are
		{[]uint32{minusZero, 0}, api.Box, 1, []uint32{0}},                  // +0, as one is
		{[]uint32{infinity, infinity | sign}, api.Box, 1, []uint32{made}},  // no number
		{[]uint32{infinity | sign, one}, api.Box, 1, []uint32{0xFF800000}}, // the infinity's sign
		{[]uint32{one, infinity, one}, api.Tent, 3, []uint32{one, infinity, one}},
		{[]uint32{one, 0xFFFFFFFF, one}, api.Cubic, 3, []uint32{one, made, one}}, // a NaN with a sign
		{[]uint32{infinity, one}, api.Tent, 4, []uint32{infinity, infinity, infinity, one}},
	} {
		got, e := scale.Row(c.l, c.kind, c.to)
		checkRow(t, "Row", got, e, c.want)
	}
}

func TestP10_1Edges(t *testing.T) {
	for _, kind := range kinds() {
		for _, a := range edges() {
			for _, to := range []int{1, 2, 5, 1024} {
				checkRowTold(t, []uint32{a}, kind, to)
			}
			for _, b := range edges() {
				checkRowTold(t, []uint32{a, b}, kind, 1)
				checkRowTold(t, []uint32{a, b, a}, kind, 5)
				checkRowTold(t, []uint32{a, b, a, b, one}, kind, 4)
			}
		}
	}
}

// Every NaN that is told is Made.
func TestP10_1NaNsAreMade(t *testing.T) {
	for _, kind := range kinds() {
		for _, s := range edges() {
			l := []uint32{one, s, one, two, s, four}
			for _, to := range []int{2, 5, 6, 11} {
				for _, got := range must(scale.Row(l, kind, to)) {
					if isNaN(got) && got != made {
						t.Fatalf("Row of %08X, %d, %d: %08X", l, kind, to, got)
					}
				}
			}
		}
	}
}

// The size comes first, whatever the kind is.
func TestP10_1NoSize(t *testing.T) {
	for _, kind := range append(kinds(), wrongKinds()...) {
		for _, n := range []int{0, 1025, 2048, 65536} {
			for _, to := range []int{1, 2, 69, 1024, 0, 1025} {
				checkRowRefused(t, make([]uint32, n), kind, to, api.ErrScaleSize)
			}
		}
		checkRowRefused(t, nil, kind, 1, api.ErrScaleSize)
		for _, to := range wrongSides() {
			for _, n := range []int{1, 2, 16, 1024, 1025} {
				checkRowRefused(t, make([]uint32, n), kind, to, api.ErrScaleSize)
			}
		}
	}
}

func TestP10_1KernelsErrors(t *testing.T) {
	for _, kind := range wrongKinds() {
		for _, z := range [][2]int{{1, 1}, {2, 1}, {1, 1024}, {1024, 1024}, {16, 1}, {1024, 1}} { // of too many taps, too
			checkRowRefused(t, make([]uint32, z[0]), kind, z[1], api.ErrKernelKind)
		}
	}
	for _, kind := range kinds() {
		for _, z := range [][2]int{{16, 1}, {31, 2}, {1024, 1}, {1024, 68}, {1021, 68}} {
			checkRowRefused(t, make([]uint32, z[0]), kind, z[1], api.ErrKernelTaps)
		}
		for _, z := range [][2]int{{15, 1}, {30, 2}, {1024, 69}, {1020, 68}} {
			if l, e := scale.Row(make([]uint32, z[0]), kind, z[1]); e != api.OK || !slices.Equal(l, make([]uint32, z[1])) {
				t.Fatalf("Row of %v: %08X, %d", z, l, e)
			}
		}
	}
}
