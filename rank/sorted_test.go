package rank_test

import (
	"slices"
	"testing"

	"halide/rank"
)

func checkSorted(t *testing.T, l []uint32) {
	t.Helper()
	if got, want := rank.Sorted(l), sortedTold(l); !slices.Equal(got, want) {
		t.Fatalf("Sorted of %d samples %08X: %08X, want %08X", len(l), few(l), few(got), few(want))
	}
}

func TestP12_1SortedByHand(t *testing.T) {
	l := []uint32{0x7FFFFFFF, one, 0, minusZero, infinity, two, infinity | sign, one | sign, 0xFFFFFFFF, infinity + 1, 0xFF800001, two | sign}
	want := []uint32{0xFFFFFFFF, 0xFF800001, infinity | sign, two | sign, one | sign, minusZero, 0, one, two, infinity, infinity + 1, 0x7FFFFFFF}
	if got := rank.Sorted(l); !slices.Equal(got, want) {
		t.Errorf("Sorted: %08X, want %08X", got, want)
	}
}

// A nil list and an empty one are the same.
func TestP12_1SortedOfNothing(t *testing.T) {
	for _, l := range [][]uint32{nil, {}, make([]uint32, 0, 9)} {
		if got := rank.Sorted(l); len(got) != 0 {
			t.Errorf("Sorted of nothing: %08X", got)
		}
	}
}

func TestP12_1SortedOfFew(t *testing.T) {
	all := edges()
	for _, a := range all {
		checkSorted(t, []uint32{a})
		for _, b := range all {
			checkSorted(t, []uint32{a, b})
			for _, c := range all {
				checkSorted(t, []uint32{a, b, c})
			}
		}
	}
}

func TestP12_1SortedByChance(t *testing.T) {
	next, all := chance(1), edges()
	for n := range 300 {
		l := make([]uint32, n)
		for _, sample := range []func() uint32{next, func() uint32 { return oneOf(all, next) }, func() uint32 { return next() & sign }} {
			for i := range l {
				l[i] = sample()
			}
			checkSorted(t, l)
			slices.Reverse(l)
			checkSorted(t, l)
			checkSorted(t, sortedTold(l))
		}
	}
}

// More samples than any window, or any plane, has.
func TestP12_1SortedOfMany(t *testing.T) {
	next := chance(2)
	for _, n := range []int{226, 65536, 300001} {
		checkSorted(t, filled(n, 1, next).S)
		checkSorted(t, filled(n, 1, func() uint32 { return next() % 5 }).S)
	}
}
