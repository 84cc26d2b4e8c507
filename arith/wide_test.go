package arith_test

import (
	"testing"

	"halide/arith"
)

func TestP2_6Wide(t *testing.T) {
	next := chance(6)
	all := numbers()
	for range 20000 {
		all = append(all, next())
	}
	for _, s := range all {
		w := arith.Wide(s)
		switch {
		case isNaN(s):
			if w != 0x7FF8000000000000 {
				t.Fatalf("Wide(%08X): %016X", s, w)
			}
		case isInfinite(s):
			if w != uint64(signOf(s))<<32|0x7FF0000000000000 {
				t.Fatalf("Wide(%08X): %016X", s, w)
			}
		case exactWide(w).Cmp(exact(s)) != 0 || w>>63 != uint64(s>>31):
			t.Fatalf("Wide(%08X): %016X: another value", s, w)
		}
	}
}

func narrowTold(w uint64) uint32 {
	minus := uint32(w>>63) << 31
	size := w &^ (1 << 63)
	switch {
	case size > 0x7FF0000000000000:
		return made
	case size == 0x7FF0000000000000:
		return minus | infinity
	case size == 0:
		return minus
	}
	return rounded(exactWide(w))
}

func checkNarrow(t *testing.T, w uint64) {
	t.Helper()
	if got, want := arith.Narrow(w), narrowTold(w); got != want {
		t.Fatalf("Narrow(%016X): %08X, want %08X", w, got, want)
	}
}

func TestP2_6NarrowOfEdges(t *testing.T) {
	for _, size := range []uint64{
		0, 1, 1<<52 - 1, 1 << 52, 0x3680000000000000, 0x368FFFFFFFFFFFFF, 0x3690000000000000, 0x3690000000000001, 0x36A0000000000000, 0x36A7FFFFFFFFFFFF, 0x36A8000000000000, 0x36A8000000000001,
		0x380FFFFFC0000000, 0x380FFFFFDFFFFFFF, 0x380FFFFFE0000000, 0x380FFFFFE0000001, 0x3810000000000000, 0x3FF0000010000000, 0x3FF0000010000001, 0x3FF000000FFFFFFF, 0x3FF0000030000000,
		0x47EFFFFFE0000000, 0x47EFFFFFEFFFFFFF, 0x47EFFFFFF0000000, 0x47EFFFFFF0000001, 0x47F0000000000000, 0x7FEFFFFFFFFFFFFF, 0x7FF0000000000000, 0x7FF0000000000001, 0x7FF8000000000000, 0x7FFFFFFFFFFFFFFF,
	} {
		checkNarrow(t, size)
		checkNarrow(t, size|1<<63)
	}
}

// Two samples next to each other, what lies halfway, and directly beside that.
func TestP2_6NarrowAboutHalves(t *testing.T) {
	next := chance(66)
	all := numbers()
	for range 1500 {
		s := next()
		all = append(all, s, s&^0x7F000000)
	}
	for _, s := range all {
		if isNaN(s) || isInfinite(s) || s&^uint32(sign) == greatest {
			continue
		}
		a, b := arith.Wide(s), arith.Wide(s+1)
		middle := a + (b-a)/2 // halfway by bits; by value too, but beside a nought
		for _, w := range []uint64{a, a + 1, middle - 1, middle, middle + 1, b - 1, b} {
			checkNarrow(t, w)
		}
	}
}

func TestP2_6NarrowByChance(t *testing.T) {
	next := chance(67)
	for range 5000 {
		w := uint64(next())<<32 | uint64(next())
		checkNarrow(t, w)
		w = w&^(2047<<52) | (w>>52&511+640)<<52 // near what binary32 has
		checkNarrow(t, w)
	}
}
