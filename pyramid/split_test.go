package pyramid_test

import (
	"fmt"
	"testing"

	"halide/api"
	"halide/pyramid"
)

func checkSplitTold(t *testing.T, p api.Plane) {
	t.Helper()
	what := fmt.Sprintf("Split of %d by %d", p.W, p.H)
	coarse, fine, e := pyramid.Split(p)
	wantCoarse, wantFine := splitTold(p)
	checkPlane(t, what+", the coarse plane", coarse, e, wantCoarse)
	checkPlane(t, what+", the fine plane", fine, e, wantFine)
}

func TestP14_4SplitTold(t *testing.T) {
	for _, z := range someSizes() {
		for _, p := range somePlanes(z[0], z[1]) {
			checkSplitTold(t, p)
		}
	}
	for _, z := range [][2]int{{1024, 64}, {64, 1024}, {1023, 1}} {
		checkSplitTold(t, bitsByChance(z[0], z[1], 14))
	}
}

// The coarse plane is Reduce's, and what lacks is told by Expand.
func TestP14_4SplitIsByReduceAndExpand(t *testing.T) {
	for _, z := range someSizes() {
		for _, p := range somePlanes(z[0], z[1]) {
			coarse, fine, e := pyramid.Split(p)
			checkPlane(t, "the coarse plane", coarse, e, must(pyramid.Reduce(p)))
			guess := must(pyramid.Expand(coarse, p.W, p.H))
			for i, s := range fine.S {
				if want := uint32(keyTold(p.S[i]) - keyTold(guess.S[i])); s != want {
					t.Fatalf("%v: %08X at %d, want %08X", z, s, i, want)
				}
			}
		}
	}
}

// One sample is its own coarse one, if it is no NaN.
func TestP14_4SplitByHand(t *testing.T) {
	for _, c := range []struct {
		p, coarse, fine api.Plane
	}{
		{rowOf(one), rowOf(one), rowOf(0)},
		{rowOf(minusZero), rowOf(minusZero), rowOf(0)},
		{rowOf(infinity), rowOf(infinity), rowOf(0)},
		{rowOf(made), rowOf(made), rowOf(0)},
		{rowOf(made + 1), rowOf(made), rowOf(1)},
		{rowOf(made - 1), rowOf(made), rowOf(0xFFFFFFFF)},
		{rowOf(infinity + 1), rowOf(made), rowOf(0xFFC00001)},
		{rowOf(0x7FFFFFFF), rowOf(made), rowOf(0x003FFFFF)},
		{rowOf(made | sign), rowOf(made), rowOf(0x007FFFFF)}, // the key 003FFFFF less FFC00000
		{rowOf(infinity | sign + 1), rowOf(made), rowOf(0x00BFFFFE)},
		{rowOf(one, three), rowOf(0x3FD00000), rowOf(0xFFB00000, 0x00700000)}, // 1.625: 26/16
		{columnOf(one, three), rowOf(0x3FD00000), columnOf(0xFFB00000, 0x00700000)},
		{rowOf(0, minusZero), rowOf(0), rowOf(0, 0xFFFFFFFF)},
		{rowOf(minusZero, 0), rowOf(0), rowOf(0xFFFFFFFF, 0)},
		{rowOf(leastSmall|sign, leastSmall), rowOf(minusZero), rowOf(0xFFFFFFFF, 2)},
	} {
		coarse, fine, e := pyramid.Split(c.p)
		what := fmt.Sprintf("Split of %08X", c.p.S)
		checkPlane(t, what+", the coarse plane", coarse, e, c.coarse)
		checkPlane(t, what+", the fine plane", fine, e, c.fine)
		back, e := pyramid.Join(c.coarse, c.fine)
		checkPlane(t, "Join", back, e, c.p)
	}
}

func TestP14_4SplitRefused(t *testing.T) {
	for _, c := range refusedPlanes() {
		coarse, fine, e := pyramid.Split(c.p)
		checkNone(t, "the coarse plane", coarse, e, c.want)
		checkNone(t, "the fine plane", fine, e, c.want)
	}
}

// eachPair: planes that fit, of samples of all kinds, which no Split need have told.
func eachPair(do func(coarse, fine api.Plane)) {
	for _, z := range someSizes() {
		coarse, fine := somePlanes(halfTold(z[0]), halfTold(z[1])), somePlanes(z[0], z[1])
		for i := range coarse {
			do(coarse[i], fine[i])
			do(coarse[i], fine[len(fine)-1])
			do(coarse[len(coarse)-1], fine[i])
		}
	}
}

func TestP14_4JoinTold(t *testing.T) {
	eachPair(func(coarse, fine api.Plane) {
		got, e := pyramid.Join(coarse, fine)
		checkPlane(t, fmt.Sprintf("Join to %d by %d", fine.W, fine.H), got, e, joinTold(coarse, fine))
	})
	for _, z := range greatSizes() {
		coarse, fine := bitsByChance(halfTold(z[0]), halfTold(z[1]), 4), bitsByChance(z[0], z[1], 5)
		got, e := pyramid.Join(coarse, fine)
		checkPlane(t, fmt.Sprintf("Join to %d by %d", fine.W, fine.H), got, e, joinTold(coarse, fine))
	}
}

func TestP14_4JoinByHand(t *testing.T) {
	for _, c := range []struct{ coarse, fine, want uint32 }{
		{one, 0, one}, {one, 1, one + 1}, {one, 0xFFFFFFFF, one - 1},
		{0, 0xFFFFFFFF, minusZero}, {minusZero, 1, 0}, {0, sign, 0xFFFFFFFF}, {minusZero, sign, 0x7FFFFFFF},
		{infinity, 1, infinity + 1}, {greatest, 1, infinity},
		{made, 0x003FFFFF, 0x7FFFFFFF}, {made, 0x00400000, 0xFFFFFFFF}, // it goes round
		{0xFFFFFFFF, 0, made}, {infinity + 1, 0, made}, // Expand makes it
	} {
		got, e := pyramid.Join(rowOf(c.coarse), rowOf(c.fine))
		checkPlane(t, fmt.Sprintf("Join of %08X and %08X", c.coarse, c.fine), got, e, rowOf(c.want))
	}
}

func TestP14_4JoinForm(t *testing.T) {
	for cw := 1; cw <= 4; cw++ {
		for ch := 1; ch <= 4; ch++ {
			for w := 1; w <= 10; w++ {
				for h := 1; h <= 10; h++ {
					got, e := pyramid.Join(allOf(cw, ch, one), allOf(w, h, 0))
					what := fmt.Sprintf("Join of %d by %d and %d by %d", cw, ch, w, h)
					if halfTold(w) == cw && halfTold(h) == ch {
						checkPlane(t, what, got, e, allOf(w, h, one))
					} else {
						checkNone(t, what, got, e, api.ErrPyramidForm)
					}
				}
			}
		}
	}
	got, e := pyramid.Join(allOf(1024, 64, one), allOf(1024, 64, 0))
	checkNone(t, "Join of two great ones", got, e, api.ErrPyramidForm)
}

// The coarse plane first, then the fine one, then whether they fit.
func TestP14_4JoinRefused(t *testing.T) {
	for _, c := range refusedPlanes() {
		for _, good := range []api.Plane{allOf(1, 1, one), allOf(2, 3, one), allOf(512, 32, one)} {
			got, e := pyramid.Join(c.p, good)
			checkNone(t, "Join of a wrong coarse plane", got, e, c.want)
			got, e = pyramid.Join(good, c.p)
			checkNone(t, "Join of a wrong fine plane", got, e, c.want)
		}
		for _, d := range refusedPlanes() {
			got, e := pyramid.Join(c.p, d.p)
			checkNone(t, "Join of two wrong planes", got, e, c.want)
		}
	}
}
