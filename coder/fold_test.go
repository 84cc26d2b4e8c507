package coder_test

import (
	"math"
	"testing"

	"halide/coder"
)

func TestP17_1ByHand(t *testing.T) {
	for _, c := range []struct{ d, z uint32 }{
		{0, 0}, {0xFFFFFFFF, 1}, {1, 2}, {0xFFFFFFFE, 3}, {2, 4}, {0xFFFFFFFD, 5}, {100, 200}, {0xFFFFFF9C, 199},
		{0x3FFFFFFF, 0x7FFFFFFE}, {0x40000000, 0x80000000}, {0xC0000000, 0x7FFFFFFF}, {0xBFFFFFFF, 0x80000001},
		{0x7FFFFFFE, 0xFFFFFFFC}, {0x80000001, 0xFFFFFFFD}, {0x7FFFFFFF, 0xFFFFFFFE}, {0x80000000, 0xFFFFFFFF},
	} {
		if got := coder.Fold(c.d); got != c.z {
			t.Errorf("Fold(%08X): %08X, want %08X", c.d, got, c.z)
		}
		if got := coder.Unfold(c.z); got != c.d {
			t.Errorf("Unfold(%08X): %08X, want %08X", c.z, got, c.d)
		}
	}
}

func TestP17_1Swept(t *testing.T) {
	for _, n := range swept() {
		if got, want := coder.Fold(n), foldTold(n); got != want {
			t.Fatalf("Fold(%08X): %08X, want %08X", n, got, want)
		}
		if got, want := coder.Unfold(n), unfoldTold(n); got != want {
			t.Fatalf("Unfold(%08X): %08X, want %08X", n, got, want)
		}
	}
}

func TestP17_6ThereAndBack(t *testing.T) {
	for _, n := range swept() {
		if got := coder.Unfold(coder.Fold(n)); got != n {
			t.Fatalf("Unfold(Fold(%08X)): %08X", n, got)
		}
		if got := coder.Fold(coder.Unfold(n)); got != n {
			t.Fatalf("Fold(Unfold(%08X)): %08X", n, got)
		}
	}
}

func TestP17_6NearNought(t *testing.T) {
	for _, d := range swept() {
		near := d == 0 || d == 1 || d == math.MaxUint32
		if got := coder.Fold(d); got <= 2 != near {
			t.Fatalf("Fold(%08X): %d", d, got)
		}
	}
}
