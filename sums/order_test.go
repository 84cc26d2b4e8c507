package sums_test

import (
	"testing"

	"halide/sums"
)

// inOrder: the sums of samples that go by their order, and what the chapter says of each.
func inOrder() []struct {
	name       string
	call, told func([]uint32) uint32
} {
	return []struct {
		name       string
		call, told func([]uint32) uint32
	}{
		{"Left", sums.Left, leftTold},
		{"Pairs", sums.Pairs, pairsTold},
		{"Kahan", sums.Kahan, kahanTold},
	}
}

func holdInOrder(t *testing.T, name string) {
	t.Helper()
	for _, c := range inOrder() {
		if c.name != name {
			continue
		}
		for _, l := range append(lists(), longLists()...) {
			check(t, name, c.call(l), c.told(l), l)
		}
		check(t, name, c.call(nil), plusZero, nil)
		check(t, name, c.call([]uint32{}), plusZero, nil)
		for _, s := range append(finites(), infinity, infinity|sign) {
			check(t, name, c.call([]uint32{s}), s, []uint32{s})
		}
		for _, s := range nans() {
			for _, l := range [][]uint32{{s}, {s, one}, {one, s}, {one, s, infinity}, {s, s}} {
				check(t, name, c.call(l), made, l)
			}
		}
	}
}

func TestP3_1Left(t *testing.T)  { holdInOrder(t, "Left") }
func TestP3_2Pairs(t *testing.T) { holdInOrder(t, "Pairs") }
func TestP3_3Kahan(t *testing.T) { holdInOrder(t, "Kahan") }

// Lists of which each order tells another sum.
func TestP3_1To3OrdersTold(t *testing.T) {
	const two, below = 0x40000000, infinity | sign
	for _, c := range []struct {
		l                  []uint32
		left, pairs, kahan uint32
	}{
		{[]uint32{minusZero, minusZero, minusZero}, minusZero, minusZero, minusZero},
		{[]uint32{minusZero, plusZero}, plusZero, plusZero, plusZero},
		{[]uint32{one, one | sign}, plusZero, plusZero, plusZero},
		{[]uint32{one, tiny, tiny}, one, one + 1, one + 1},
		{[]uint32{tiny, tiny, one}, one + 1, one, one + 1},
		{[]uint32{one, tiny, tiny, tiny, tiny}, one, one + 2, one + 2},
		{[]uint32{tiny, tiny, tiny, one, tiny}, one + 2, one + 1, one + 2},
		{[]uint32{tiny, tiny, one, tiny, tiny}, one + 2, one + 2, one + 2},
		{[]uint32{one, greatest, greatest | sign}, plusZero, one, plusZero},
		{[]uint32{greatest, greatest, greatest | sign}, infinity, greatest, made},
		{[]uint32{greatest, halfGreatest}, infinity, infinity, infinity},
		{[]uint32{greatest | sign, halfGreatest - 1 | sign}, greatest | sign, greatest | sign, greatest | sign},
		{[]uint32{greatestSmall, leastSmall}, leastNormal, leastNormal, leastNormal},
		{[]uint32{infinity, one}, infinity, infinity, infinity},
		{[]uint32{below, one, one}, below, below, made},
		{[]uint32{infinity, below}, made, made, made},
		{[]uint32{one, one, infinity}, infinity, infinity, infinity},
		{[]uint32{one, one, two, two, two}, 0x41000000, 0x41000000, 0x41000000},
	} {
		check(t, "Left", sums.Left(c.l), c.left, c.l)
		check(t, "Pairs", sums.Pairs(c.l), c.pairs, c.l)
		check(t, "Kahan", sums.Kahan(c.l), c.kahan, c.l)
	}
}

func TestP3_1Left64(t *testing.T) {
	for _, l := range lists() {
		check64(t, "Left64", sums.Left64(l), left64Told(l), l)
	}
	for _, l := range longLists() {
		check64(t, "Left64", sums.Left64(l), left64Told(l), l)
	}
}

func TestP3_1Left64Edges(t *testing.T) {
	const minus = minusZero64
	for _, c := range []struct {
		l    []uint32
		want uint64
	}{
		{nil, 0},
		{[]uint32{}, 0},
		{[]uint32{plusZero}, 0},
		{[]uint32{minusZero}, minus},
		{[]uint32{minusZero, minusZero}, minus},
		{[]uint32{minusZero, plusZero}, 0},
		{[]uint32{one, one | sign}, 0},
		{[]uint32{leastSmall}, 0x36A0000000000000},
		{[]uint32{leastSmall | sign, leastSmall | sign}, 0xB6B0000000000000},
		{[]uint32{greatest}, 0x47EFFFFFE0000000},
		{[]uint32{greatest, greatest}, 0x47FFFFFFE0000000}, // no infinity: binary64 goes further
		{[]uint32{infinity}, infinity64},
		{[]uint32{infinity | sign, one}, minus | infinity64},
		{[]uint32{infinity, infinity | sign}, madeWide},
		{[]uint32{0xFFC00009}, madeWide},
		{[]uint32{one, leastNaN}, madeWide},
		{[]uint32{lastNaN | sign, one}, madeWide},
		{[]uint32{one, 0x25000000}, 0x3FF0000000000000},                  // 1 + 2^-53: a tie
		{[]uint32{one, 0x25000001}, 0x3FF0000000000001},                  // a little more
		{[]uint32{one, 0x25800000, 0x25000000}, 0x3FF0000000000002},      // a tie, the other way
		{[]uint32{one, 0x25000000, 0x25000000}, 0x3FF0000000000000},      // lost at each step
		{[]uint32{0x25000000, 0x25000000, one}, 0x3FF0000000000001},      // not lost
		{[]uint32{greatest, leastSmall, greatest | sign}, 0},             // lost
		{[]uint32{greatest, greatest | sign, leastSmall}, 0x36A0 << 48},  // not lost
		{[]uint32{one | sign, 0x25000001 | sign}, 0xBFF0000000000001},    // below 0
		{[]uint32{infinity, greatest | sign, infinity | sign}, madeWide}, // both
	} {
		check64(t, "Left64", sums.Left64(c.l), c.want, c.l)
	}
}
