package rank_test

import (
	"fmt"
	"slices"
	"testing"

	"halide/api"
	"halide/rank"
)

func TestP12_4SamplesAreThePlanes(t *testing.T) {
	eachWindow(func(border, w, h int) {
		for _, p := range somePlanes(6, 4) {
			for _, k := range ranks(w * h) {
				for _, s := range must(rank.Plane(p, border, w, h, k)).S {
					if !slices.Contains(p.S, s) {
						t.Fatalf("%d, %d, %d, %d: %08X is none of the plane's", border, w, h, k, s)
					}
				}
			}
		}
	})
}

// Of a plane of one sample, with all its bits, and of a window of one place.
func TestP12_4OneSampleOnePlace(t *testing.T) {
	eachWindow(func(border, w, h int) {
		for _, s := range edges() {
			p := allOf(3, 2, s)
			for _, k := range ranks(w * h) {
				got, e := rank.Plane(p, border, w, h, k)
				checkPlane(t, "one sample", got, e, p)
			}
		}
	})
	for _, border := range borders() {
		for _, z := range append(someSizes(), [2]int{1024, 64}, [2]int{64, 1024}) {
			for _, p := range somePlanes(z[0], z[1]) {
				got, e := rank.Plane(p, border, 1, 1, 0)
				checkPlane(t, "one place", got, e, p)
				for _, call := range []func(api.Plane, int, int, int) (api.Plane, api.Errno){rank.Median, rank.Erode, rank.Dilate} {
					got, e = call(p, border, 1, 1)
					checkPlane(t, "one place", got, e, p)
				}
			}
		}
	}
}

// checkNowhereAbove: by key, place by place.
func checkNowhereAbove(t *testing.T, what string, low, high api.Plane) {
	t.Helper()
	for i := range low.S {
		if keyTold(low.S[i]) > keyTold(high.S[i]) {
			t.Fatalf("%s: at %d %08X stands above %08X", what, i, low.S[i], high.S[i])
		}
	}
}

func TestP12_5RisesWithRank(t *testing.T) {
	for _, border := range borders() {
		for _, z := range [][2]int{{1, 2}, {3, 3}, {4, 2}, {15, 1}, {2, 15}, {8, 7}} {
			for _, p := range somePlanes(7, 5) {
				before := must(rank.Erode(p, border, z[0], z[1]))
				for k := range z[0] * z[1] {
					next := must(rank.Plane(p, border, z[0], z[1], k))
					checkNowhereAbove(t, fmt.Sprintf("%d, %v, %d", border, z, k), before, next)
					before = next
				}
			}
		}
	}
}

func TestP12_5ErodeBelowDilateAbove(t *testing.T) {
	eachWindow(func(border, w, h int) {
		for _, z := range someSizes() {
			for _, p := range somePlanes(z[0], z[1]) {
				what := fmt.Sprintf("%d, %d, %d, %v", border, w, h, z)
				checkNowhereAbove(t, "Erode "+what, must(rank.Erode(p, border, w, h)), p)
				checkNowhereAbove(t, "Dilate "+what, p, must(rank.Dilate(p, border, w, h)))
			}
		}
	})
}

// raised: a plane nowhere below p by key: some samples a step above, some far, some as they were.
func raised(p api.Plane, next func() uint32) api.Plane {
	return replaced(p, func(s uint32) uint32 {
		k := keyTold(s)
		switch next() % 3 {
		case 0:
			return ofKey(min(k+1, 1<<32-1))
		case 1:
			return ofKey(max(k, int(next())))
		}
		return s
	})
}

func TestP12_5KeepsOrder(t *testing.T) {
	next := chance(5)
	eachWindow(func(border, w, h int) {
		for _, p := range somePlanes(6, 5) {
			q := raised(p, next)
			for _, k := range ranks(w * h) {
				low, high := must(rank.Plane(p, border, w, h, k)), must(rank.Plane(q, border, w, h, k))
				checkNowhereAbove(t, fmt.Sprintf("%d, %d, %d, %d", border, w, h, k), low, high)
			}
		}
	})
}

func TestP12_6TurnedRound(t *testing.T) {
	byKeys := func(s uint32) uint32 { return ofKey(1<<32 - 1 - keyTold(s)) }
	for _, s := range edges() {
		if byKeys(s) != s^sign {
			t.Fatalf("%08X: %08X", s, byKeys(s))
		}
	}
	eachWindow(func(border, w, h int) {
		for _, p := range somePlanes(6, 5) {
			for _, k := range ranks(w * h) {
				got, e := rank.Plane(replaced(p, byKeys), border, w, h, k)
				checkPlane(t, fmt.Sprintf("%d, %d, %d, %d", border, w, h, k), got, e, replaced(must(rank.Plane(p, border, w, h, w*h-1-k)), byKeys))
			}
		}
	})
}

// rising: functions of samples that rise by key, or stay.
func rising() []func(s uint32) uint32 {
	return []func(s uint32) uint32{
		func(s uint32) uint32 { return ofKey(min(keyTold(s)+1, 1<<32-1)) },
		func(s uint32) uint32 { return ofKey(keyTold(s) / 2) },
		func(s uint32) uint32 { return ofKey(keyTold(s) &^ 0xFFFFFF) },
		func(s uint32) uint32 { return ofKey(max(keyTold(s), 1<<31)) },
		func(s uint32) uint32 { return ofKey(min(max(keyTold(s), keyTold(one|sign)), keyTold(one))) },
		func(uint32) uint32 { return nan | sign },
	}
}

func TestP12_6GoesWithRisingFunctions(t *testing.T) {
	eachWindow(func(border, w, h int) {
		for _, p := range somePlanes(6, 5)[:3] {
			for _, k := range ranks(w * h) {
				whole := must(rank.Plane(p, border, w, h, k))
				for i, f := range rising() {
					got, e := rank.Plane(replaced(p, f), border, w, h, k)
					checkPlane(t, fmt.Sprintf("function %d, %d, %d, %d, %d", i, border, w, h, k), got, e, replaced(whole, f))
				}
			}
		}
	})
}

func TestP12_7OneSideAfterTheOther(t *testing.T) {
	for name, call := range map[string]func(api.Plane, int, int, int) (api.Plane, api.Errno){"Erode": rank.Erode, "Dilate": rank.Dilate} {
		eachWindow(func(border, w, h int) {
			for _, z := range append(someSizes(), [2]int{40, 23}) {
				for _, p := range somePlanes(z[0], z[1]) {
					got, e := call(must(call(p, border, w, 1)), border, 1, h)
					checkPlane(t, fmt.Sprintf("%s %d, %d, %d, %v", name, border, w, h, z), got, e, must(call(p, border, w, h)))
				}
			}
		})
	}
}
