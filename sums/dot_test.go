package sums_test

import (
	"math"
	"testing"

	"halide/api"
	"halide/sums"
)

func holdDot(t *testing.T, weights []int, l []uint32) {
	t.Helper()
	w, e := sums.Dot64(weights, l)
	if want := dot64Told(weights, l); w != want || e != api.OK {
		t.Fatalf("Dot64(%d.., %08X..), %d samples: %016X, %d, want %016X", weights[:min(len(l), 8)], few(l), len(l), w, e, want)
	}
	s, e := sums.Dot(weights, l)
	if want := dotTold(weights, l); s != want || e != api.OK {
		t.Fatalf("Dot(%d.., %08X..), %d samples: %08X, %d, want %08X", weights[:min(len(l), 8)], few(l), len(l), s, e, want)
	}
}

func someWeights() []int {
	return []int{0, 1, -1, 3, 65536, -65536, 98303, 1<<24 + 1, 1<<28 - 1, 1 - 1<<28, api.MaxWeight, -api.MaxWeight}
}

func TestP3_5DotOfEdges(t *testing.T) {
	for _, w := range someWeights() {
		for _, a := range edges() {
			holdDot(t, []int{w}, []uint32{a})
			for _, b := range edges() {
				holdDot(t, []int{w, 65535}, []uint32{a, b})
				holdDot(t, []int{w, 0, -w}, []uint32{a, b, a})
			}
		}
	}
}

func TestP3_5DotByChance(t *testing.T) {
	next := chance(5)
	for _, l := range append(finiteLists(6, 300), longLists()...) {
		narrow, far := make([]int, len(l)), make([]int, len(l))
		for i := range l {
			narrow[i] = int(next()%65536) - 20000
			far[i] = int(next()%(2*api.MaxWeight+1)) - api.MaxWeight
		}
		holdDot(t, narrow, l)
		holdDot(t, far, l)
	}
}

func TestP3_5DotTold(t *testing.T) {
	const most, minus = api.MaxWeight, minusZero64
	for _, c := range []struct {
		weights []int
		l       []uint32
		wide    uint64
		sample  uint32
	}{
		{nil, nil, 0, plusZero},
		{[]int{}, nil, 0, plusZero},
		{nil, []uint32{}, 0, plusZero},
		{[]int{0}, []uint32{one}, 0, plusZero},
		{[]int{0}, []uint32{one | sign}, minus, minusZero}, // the first product as it is: -0
		{[]int{0, 0}, []uint32{minusZero, one | sign}, minus, minusZero},
		{[]int{0, 0}, []uint32{minusZero, one}, 0, plusZero},
		{[]int{-1}, []uint32{plusZero}, minus, minusZero},
		{[]int{-1}, []uint32{minusZero}, 0, plusZero},
		{[]int{1, -1}, []uint32{one, one}, 0, plusZero},
		{[]int{0}, []uint32{infinity}, madeWide, made},
		{[]int{0}, []uint32{infinity | sign}, madeWide, made},
		{[]int{0}, []uint32{leastNaN | sign}, madeWide, made},
		{[]int{1, 1}, []uint32{one, lastNaN}, madeWide, made},
		{[]int{-1, 5}, []uint32{infinity, greatest}, minus | infinity64, infinity | sign},
		{[]int{1, 1}, []uint32{infinity, infinity | sign}, madeWide, made},
		{[]int{1, -1}, []uint32{infinity, infinity | sign}, infinity64, infinity},
		{[]int{most}, []uint32{greatest}, 0x49AFFFFFE0000000, infinity},
		{[]int{-most}, []uint32{greatest}, 0xC9AFFFFFE0000000, infinity | sign},
		{[]int{65536}, []uint32{greatest}, 0x48EFFFFFE0000000, greatest},
		{[]int{65536, 65536}, []uint32{greatest, halfGreatest}, 0x48EFFFFFF0000000, infinity},
		{[]int{65536, 65535}, []uint32{greatest, halfGreatest}, 0x48EFFFFFEFFFF000, greatest},
		{[]int{1}, []uint32{leastSmall}, 0x36A0000000000000, plusZero},
		{[]int{-1}, []uint32{leastSmall}, 0xB6A0000000000000, minusZero},
		{[]int{32768}, []uint32{leastSmall}, 0x3790000000000000, plusZero}, // half of the least one: a tie
		{[]int{32769}, []uint32{leastSmall}, 0x3790002000000000, leastSmall},
		{[]int{98304}, []uint32{leastSmall}, 0x37A8000000000000, 2}, // a tie, the other way
		{[]int{65536, 1}, []uint32{one, 0x3B000000}, 0x40F0000008000000, one},
		{[]int{65536, 1}, []uint32{one, 0x3B800000}, 0x40F0000010000000, one},                          // 2^-24 more: a tie
		{[]int{65536, 1, 1}, []uint32{one, 0x3B800000, 0x2D000000}, 0x40F0000010000000, one},           // lost in binary64
		{[]int{1, 1, 65536}, []uint32{0x3B800000, 0x2D000000, one}, 0x40F0000010000000, one},           // lost, the last sum
		{[]int{65536, 1, 1}, []uint32{one, 0x3B800000, 0x2D800000}, 0x40F0000010000001, one + 1},       // not lost
		{[]int{most, 1, -most}, []uint32{0x7F000000, one, 0x7F000000}, 0, plusZero},                    // 1 is lost
		{[]int{most, -most, 1}, []uint32{0x7F000000, 0x7F000000, one}, 0x3FF0000000000000, 0x37800000}, // 1 isn't
	} {
		w, e := sums.Dot64(c.weights, c.l)
		s, f := sums.Dot(c.weights, c.l)
		if w != c.wide || s != c.sample || e != api.OK || f != api.OK {
			t.Errorf("Dot64, Dot(%d, %08X): %016X, %08X, %d, %d, want %016X, %08X", c.weights, c.l, w, s, e, f, c.wide, c.sample)
		}
	}
}

func TestP3_5Errors(t *testing.T) {
	const most = api.MaxWeight
	for _, c := range []struct {
		weights []int
		l       []uint32
		want    api.Errno
	}{
		{[]int{1}, nil, api.ErrSumsShort},
		{nil, []uint32{one}, api.ErrSumsShort},
		{[]int{1, 2}, []uint32{one}, api.ErrSumsShort},
		{[]int{1}, []uint32{one, one}, api.ErrSumsShort},
		{[]int{most + 1}, nil, api.ErrSumsShort}, // named first
		{[]int{most + 1, 1}, []uint32{one}, api.ErrSumsShort},
		{[]int{most + 1}, []uint32{plusZero}, api.ErrSumsWeight},
		{[]int{-most - 1}, []uint32{plusZero}, api.ErrSumsWeight},
		{[]int{math.MaxInt}, []uint32{one}, api.ErrSumsWeight},
		{[]int{math.MinInt}, []uint32{one}, api.ErrSumsWeight},
		{[]int{1, 1, most + 1}, []uint32{one, made, one}, api.ErrSumsWeight},
		{[]int{most, -most - 1, most}, []uint32{infinity, one, one}, api.ErrSumsWeight},
	} {
		if w, e := sums.Dot64(c.weights, c.l); w != 0 || e != c.want {
			t.Errorf("Dot64(%d, %08X): %016X, %d, want %d", c.weights, c.l, w, e, c.want)
		}
		if s, e := sums.Dot(c.weights, c.l); s != 0 || e != c.want {
			t.Errorf("Dot(%d, %08X): %08X, %d, want %d", c.weights, c.l, s, e, c.want)
		}
	}
}

func TestErrorsAreNumbered(t *testing.T) {
	if api.ErrSumsShort != 30 || api.ErrSumsWeight != 32 || api.ErrSumsNone != 33 || api.MaxWeight != 1<<28 {
		t.Errorf("%d, %d, %d, %d", api.ErrSumsShort, api.ErrSumsWeight, api.ErrSumsNone, api.MaxWeight)
	}
}
