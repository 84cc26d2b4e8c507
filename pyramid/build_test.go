package pyramid_test

import (
	"fmt"
	"math"
	"slices"
	"testing"

	"halide/api"
	"halide/pyramid"
)

func TestP14_5BuildTold(t *testing.T) {
	for _, z := range someSizes() {
		for _, p := range somePlanes(z[0], z[1]) {
			for levels := range api.MaxLevels + 1 {
				got, e := pyramid.Build(p, levels)
				checkPlanes(t, fmt.Sprintf("Build of %d by %d, %d", p.W, p.H, levels), got, e, buildTold(p, levels))
			}
		}
	}
}

func TestP14_5BuildOfGreatPlanes(t *testing.T) {
	for _, z := range greatSizes() {
		p := bitsByChance(z[0], z[1], 145)
		got, e := pyramid.Build(p, api.MaxLevels)
		checkPlanes(t, fmt.Sprintf("Build of %d by %d", p.W, p.H), got, e, buildTold(p, api.MaxLevels))
	}
}

// Each one of the other's coarse plane, the first one first.
func TestP14_5BuildIsBySplits(t *testing.T) {
	for _, z := range someSizes() {
		p := bitsByChance(z[0], z[1], 99)
		for levels := range api.MaxLevels + 1 {
			var want []api.Plane
			rest := p
			for range levels {
				coarse, fine, _ := pyramid.Split(rest)
				want = append(want, fine)
				rest = coarse
			}
			got, e := pyramid.Build(p, levels)
			checkPlanes(t, "Build", got, e, append(want, rest))
		}
	}
}

// With no level p alone, to the bit.
func TestP14_5BuildOfNoLevels(t *testing.T) {
	p := planeOf(len(edges()), 1, edges()...)
	got, e := pyramid.Build(p, 0)
	checkPlanes(t, "Build", got, e, []api.Plane{p})
}

func wrongLevels() []int {
	return []int{-1, 13, -12, 14, 100, 1 << 31, 1 << 32, 1<<32 + 1, 1<<32 + 12, math.MinInt, math.MinInt + 1, math.MaxInt - 1, math.MaxInt}
}

func TestP14_5BuildRefused(t *testing.T) {
	for _, levels := range wrongLevels() {
		for _, p := range []api.Plane{allOf(1, 1, one), allOf(5, 3, made), allOf(1024, 64, one)} {
			if l, e := pyramid.Build(p, levels); len(l) != 0 || e != api.ErrPyramidLevels {
				t.Errorf("Build(%d): %d planes, %d", levels, len(l), e)
			}
		}
	}
	for _, c := range refusedPlanes() { // ahead of the levels
		for _, levels := range append(wrongLevels(), 0, 1, 12) {
			if l, e := pyramid.Build(c.p, levels); len(l) != 0 || e != c.want {
				t.Errorf("Build of %d by %d with %d samples, %d: %d planes, %d, want %d", c.p.W, c.p.H, len(c.p.S), levels, len(l), e, c.want)
			}
		}
	}
}

// ladderOf: planes that fit, of all bits, which no Build need have told.
func ladderOf(w, h, levels int) []api.Plane {
	var l []api.Plane
	for k := range levels + 1 {
		l = append(l, bitsByChance(w, h, uint64(100*w+10*h+k)))
		w, h = halfTold(w), halfTold(h)
	}
	return l
}

func TestP14_5RestoreTold(t *testing.T) {
	for _, z := range someSizes() {
		for levels := range api.MaxLevels + 1 {
			l := ladderOf(z[0], z[1], levels)
			got, e := pyramid.Restore(l)
			checkPlane(t, fmt.Sprintf("Restore of %d planes", len(l)), got, e, restoreTold(l))
		}
	}
	for _, z := range greatSizes() {
		l := ladderOf(z[0], z[1], 3)
		got, e := pyramid.Restore(l)
		checkPlane(t, fmt.Sprintf("Restore to %v", z), got, e, restoreTold(l))
	}
}

// From the last one on, each one ahead of it is joined with what there is.
func TestP14_5RestoreIsByJoins(t *testing.T) {
	for _, z := range someSizes() {
		for levels := range api.MaxLevels + 1 {
			l := ladderOf(z[0], z[1], levels)
			want := l[levels]
			for k := levels - 1; k >= 0; k-- {
				want = must(pyramid.Join(want, l[k]))
			}
			got, e := pyramid.Restore(l)
			checkPlane(t, "Restore", got, e, want)
		}
	}
}

// One plane is what it is, to the bit.
func TestP14_5RestoreOfOnePlane(t *testing.T) {
	for _, p := range []api.Plane{rowOf(edges()...), columnOf(edges()...), bitsByChance(1024, 64, 1), bitsByChance(1, 1, 2)} {
		got, e := pyramid.Restore([]api.Plane{p})
		checkPlane(t, "Restore", got, e, p)
	}
}

func checkNotRestored(t *testing.T, what string, l []api.Plane, want api.Errno) {
	t.Helper()
	got, e := pyramid.Restore(l)
	checkNone(t, what, got, e, want)
}

// Ahead of the planes.
func TestP14_5RestoreOfTooFewOrTooMany(t *testing.T) {
	checkNotRestored(t, "nil", nil, api.ErrPyramidLevels)
	checkNotRestored(t, "none", []api.Plane{}, api.ErrPyramidLevels)
	checkNotRestored(t, "none, with room", ladderOf(4, 4, 2)[:0], api.ErrPyramidLevels)
	for _, n := range []int{14, 15, 100, 4096} {
		checkNotRestored(t, "too many", slices.Repeat([]api.Plane{allOf(1, 1, one)}, n), api.ErrPyramidLevels)
		checkNotRestored(t, "too many that may not be", make([]api.Plane, n), api.ErrPyramidLevels)
	}
	got, e := pyramid.Restore(append([]api.Plane{allOf(1, 1, one)}, slices.Repeat([]api.Plane{allOf(1, 1, 0)}, 12)...))
	checkPlane(t, "13 planes", got, e, rowOf(one)) // so many steps above +0
}

// In order, and ahead of whether they fit.
func TestP14_5RestoreOfWrongPlanes(t *testing.T) {
	for _, c := range refusedPlanes() {
		checkNotRestored(t, "one", []api.Plane{c.p}, c.want)
		for k := range 4 {
			l := ladderOf(9, 5, 3)
			l[k] = c.p
			checkNotRestored(t, "one of four", l, c.want)
			other := slices.Repeat([]api.Plane{allOf(3, 3, one)}, 4) // which don't fit
			other[k] = c.p
			checkNotRestored(t, "one of four", other, c.want)
			for next := k + 1; next < 4; next++ {
				for _, d := range []refused{{api.Plane{}, api.ErrPlaneSize}, {api.Plane{W: 1, H: 1}, api.ErrPlaneCount}} {
					l[next] = d.p
					checkNotRestored(t, "two of four", l, c.want)
				}
			}
		}
	}
}

func TestP14_5RestoreOfPlanesThatDoNotFit(t *testing.T) {
	for levels := 1; levels <= api.MaxLevels; levels++ {
		for k := range levels + 1 {
			for _, z := range [][2]int{{1, 0}, {0, 1}, {2, 0}, {0, 2}, {-1, 0}, {0, -1}, {3, 3}} {
				l := ladderOf(37, 21, levels)
				other := allOf(max(1, l[k].W+z[0]), max(1, l[k].H+z[1]), one)
				l[k] = other
				if isLadder(l) {
					must(pyramid.Restore(l))
				} else {
					checkNotRestored(t, fmt.Sprintf("%d levels, the plane %d is %d by %d", levels, k, other.W, other.H), l, api.ErrPyramidForm)
				}
			}
		}
	}
	l := ladderOf(16, 16, 3)
	slices.Reverse(l)
	checkNotRestored(t, "the last one first", l, api.ErrPyramidForm)
	checkNotRestored(t, "a plane twice", []api.Plane{allOf(2, 2, one), allOf(2, 2, one)}, api.ErrPyramidForm)
}

func isLadder(l []api.Plane) bool {
	for k := range len(l) - 1 {
		if halfTold(l[k].W) != l[k+1].W || halfTold(l[k].H) != l[k+1].H {
			return false
		}
	}
	return true
}
