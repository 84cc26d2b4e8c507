package sums_test

import (
	"math/big"
	"testing"

	"halide/sums"
)

func TestP3_4Exact(t *testing.T) {
	for _, l := range append(lists(), longLists()...) {
		check(t, "Exact", sums.Exact(l), exactTold(l, 1), l)
	}
}

func TestP3_4NoughtsInfinitiesNaNs(t *testing.T) {
	const minus, below = minusZero, infinity | sign
	for _, c := range []struct {
		l    []uint32
		want uint32
	}{
		{nil, plusZero},
		{[]uint32{}, plusZero},
		{[]uint32{plusZero}, plusZero},
		{[]uint32{minus}, minus},
		{[]uint32{minus, minus, minus}, minus},
		{[]uint32{minus, plusZero, minus}, plusZero},
		{[]uint32{plusZero, minus}, plusZero},
		{[]uint32{minus, one, one | sign}, plusZero},
		{[]uint32{one | sign, one}, plusZero},
		{[]uint32{leastSmall | sign, leastSmall, minus}, plusZero},
		{[]uint32{infinity}, infinity},
		{[]uint32{below}, below},
		{[]uint32{infinity, infinity, greatest | sign}, infinity},
		{[]uint32{greatest, below, greatest, below}, below},
		{[]uint32{infinity, below}, made},
		{[]uint32{below, one, infinity}, made},
		{[]uint32{leastNaN}, made},
		{[]uint32{0xFFC00009}, made},
		{[]uint32{lastNaN | sign, infinity}, made},
		{[]uint32{below, one, leastNaN | sign}, made},
		{[]uint32{minus, lastNaN}, made},
	} {
		check(t, "Exact", sums.Exact(c.l), c.want, c.l)
	}
}

func TestP3_4GreatSums(t *testing.T) {
	for _, c := range []struct {
		l    []uint32
		want uint32
	}{
		{[]uint32{greatest, halfGreatest}, infinity},
		{[]uint32{greatest, halfGreatest, leastSmall | sign}, greatest},
		{[]uint32{greatest, halfGreatest, leastSmall}, infinity},
		{[]uint32{greatest | sign, halfGreatest | sign}, infinity | sign},
		{[]uint32{greatest | sign, halfGreatest | sign, leastSmall}, greatest | sign},
		{[]uint32{greatest, greatest, greatest}, infinity},
		{[]uint32{greatest, greatest, greatest | sign}, greatest},
		{[]uint32{greatest, greatest, greatest | sign, greatest | sign, leastSmall | sign}, leastSmall | sign},
		{[]uint32{greatest, greatest, greatest | sign, greatest | sign}, plusZero},
		{[]uint32{greatest, leastSmall, greatest | sign}, leastSmall},
		{[]uint32{leastSmall, greatestSmall}, leastNormal},
		{[]uint32{leastNormal, leastSmall | sign}, greatestSmall},
	} {
		check(t, "Exact", sums.Exact(c.l), c.want, c.l)
	}
}

// The exact sum lies half-way between two samples next to each other, or the least sample beside that.
func TestP3_4Halves(t *testing.T) {
	next := chance(4)
	all := []uint32{one, one + 1, 0x3FFFFFFF, 0x01000000, 0x01000001, 0x01FFFFFF, greatest - 1, halfGreatest, 0x4B7FFFFF}
	for range 300 {
		all = append(all, kept(next(), 2, 252)&^uint32(sign))
	}
	for _, s := range all {
		middle := new(big.Rat).Add(valueOf(s), valueOf(s+1))
		middle.Mul(middle, power(-1))
		even := s + s%2
		for _, c := range []struct {
			more []uint32
			want uint32
		}{{nil, even}, {[]uint32{minusZero}, even}, {[]uint32{leastSmall}, s + 1}, {[]uint32{leastSmall | sign}, s}, {[]uint32{leastSmall, leastSmall | sign}, even}} {
			l := append(partsOf(middle), c.more...)
			check(t, "Exact", sums.Exact(l), c.want, l)
			for i := range l {
				l[i] ^= sign
			}
			check(t, "Exact", sums.Exact(l), c.want|sign, l)
		}
	}
}

// Carries that go through the whole sum, up and down.
func TestP3_4Cancelling(t *testing.T) {
	var up []uint32
	for e := range uint32(255) {
		up = append(up, e<<23|1<<22, e<<23|greatestSmall)
	}
	all := [][]uint32{up}
	for i := range up {
		l := append([]uint32{}, up...)
		for _, s := range up[i:] {
			l = append(l, s|sign)
		}
		all = append(all, l, append(l, leastSmall|sign))
	}
	for _, l := range all {
		check(t, "Exact", sums.Exact(l), exactTold(l, 1), l)
	}
}
