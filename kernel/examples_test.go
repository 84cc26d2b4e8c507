package kernel_test

import (
	"testing"

	"halide/api"
	"halide/kernel"
)

// The chapter's section 'Examples'.
func TestP9_2Examples(t *testing.T) {
	for _, c := range []struct {
		kind, from, to, i int
		want              []api.Tap
	}{
		{api.Tent, 2, 4, 0, []api.Tap{{At: 0, N: 65536}}},
		{api.Tent, 2, 4, 1, []api.Tap{{At: 0, N: 49152}, {At: 1, N: 16384}}},
		{api.Box, 3, 2, 0, []api.Tap{{At: 0, N: 65536}}},
		{api.Box, 3, 2, 1, []api.Tap{{At: 1, N: 32768}, {At: 2, N: 32768}}},
		{api.Cubic, 4, 4, 2, []api.Tap{{At: 2, N: 65536}}},
		{api.Cubic, 2, 4, 1, []api.Tap{{At: 0, N: 52224}, {At: 1, N: 13312}}},
	} {
		got, e := kernel.Taps(c.kind, c.from, c.to, c.i)
		checkTaps(t, c.kind, c.from, c.to, c.i, got, e, c.want)
		checkTaps(t, c.kind, c.from, c.to, c.i, tapsTold(c.kind, c.from, c.to, c.i), api.OK, c.want)
	}
}

func TestP9_1Examples(t *testing.T) {
	for _, c := range []struct{ w, want []int }{
		{[]int{1, 1, 1}, []int{21846, 21845, 21845}},
		{[]int{-1, 3}, []int{-32768, 98304}},
	} {
		got, e := kernel.Share(c.w)
		checkNumbers(t, "Share", got, e, c.want)
		checkNumbers(t, "what the words tell", shareTold(c.w), api.OK, c.want)
	}
}
