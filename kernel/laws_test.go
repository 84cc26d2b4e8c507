package kernel_test

import (
	"slices"
	"testing"

	"halide/api"
	"halide/kernel"
)

// isNear: P9.5's last sentence, times 2 to.
func isNear(kind, from, to, i, at int) bool {
	if at == 0 || at == from-1 {
		return true
	}
	times := map[int]int{api.Box: 1, api.Tent: 2, api.Cubic: 4}[kind]
	away := 2*to*at - ((2*i+1)*from - to)
	return max(away, -away) <= times*max(from, to)+2*to // of its two readings the narrower one
}

func checkLaws(t *testing.T, kind, from, to, i int) {
	t.Helper()
	l, e := kernel.Taps(kind, from, to, i)
	all, last := 0, -1
	isRight := e == api.OK && len(l) >= 1 && len(l) <= api.MaxTaps
	for _, tap := range l {
		all += tap.N
		isRight = isRight && tap.At > last && tap.At < from && tap.N != 0 && isNear(kind, from, to, i, tap.At)
		if kind != api.Cubic {
			isRight = isRight && tap.N > 0
		}
		last = tap.At
	}
	if !isRight || all != 65536 {
		t.Fatalf("Taps(%d, %d, %d, %d): %v, %d", kind, from, to, i, l, e)
	}
}

func TestP9_5SumsAndPlaces(t *testing.T) {
	for from := 1; from <= api.MaxSide; from += 11 {
		for to := (from + 14) / 15; to <= api.MaxSide; to += 7 {
			for _, i := range []int{0, to / 7, to / 2, to - 1} {
				for _, kind := range kinds() {
					checkLaws(t, kind, from, to, i)
				}
			}
		}
	}
}

func TestP9_5EveryPlace(t *testing.T) {
	for _, z := range greatSizes() {
		for i := range z[1] {
			for _, kind := range kinds() {
				checkLaws(t, kind, z[0], z[1], i)
			}
		}
	}
}

func TestP9_5SameSize(t *testing.T) {
	for _, n := range []int{1, 2, 3, 4, 5, 16, 77, 511, 1000, 1023, 1024} {
		for i := range n {
			for _, kind := range kinds() {
				got, e := kernel.Taps(kind, n, n, i)
				if e != api.OK || !slices.Equal(got, []api.Tap{{At: i, N: 65536}}) {
					t.Fatalf("Taps(%d, %d, %d, %d): %v, %d", kind, n, n, i, got, e)
				}
			}
		}
	}
}

// As many as there ever are: Cubic, far from the ends, of 15 times as many places.
func TestP9_5MostTaps(t *testing.T) {
	for _, c := range [][2]int{{1020, 68}, {1005, 67}} {
		l, e := kernel.Taps(api.Cubic, c[0], c[1], c[1]/2)
		if e != api.OK || len(l) < 56 || len(l) > api.MaxTaps {
			t.Fatalf("Taps(Cubic, %d, %d) of the middle has %d taps, %d", c[0], c[1], len(l), e)
		}
	}
}
