package dither_test

import (
	"fmt"
	"slices"
	"testing"

	"halide/api"
	"halide/dither"
)

// trailOf: all of a trail; -1s, if a place's number isn't the next one.
func trailOf(p api.Plane, n int) [][3]int {
	var l [][3]int
	for i, t := range dither.Trail(p, n) {
		if i != len(l) {
			return [][3]int{{-1, -1, -1}}
		}
		l = append(l, t)
	}
	return l
}

func checkDiffuse(t *testing.T, p api.Plane, n int) {
	t.Helper()
	want, fell, trail := diffuseTold(p, n)
	what := fmt.Sprintf("%d by %d in %d levels", p.W, p.H, n)
	got, fallen, e := dither.Diffuse(p, n)
	checkPlane(t, "Diffuse of "+what, got, e, want)
	if fallen != fell {
		t.Fatalf("Diffuse of %s: %d have fallen, want %d", what, fallen, fell)
	}
	if l := trailOf(p, n); !slices.Equal(l, trail) {
		t.Fatalf("Trail of %s: %v, want %v", what, l[:min(9, len(l))], trail[:min(9, len(trail))])
	}
}

func TestP13_5Told(t *testing.T) {
	for _, z := range someSizes() {
		for _, p := range somePlanes(z[0], z[1]) {
			for _, n := range someLevels() {
				checkDiffuse(t, p, n)
			}
		}
	}
}

func TestP13_5AllLevels(t *testing.T) {
	p := somePlanes(6, 5)[1]
	for n := 2; n <= 256; n++ {
		checkDiffuse(t, p, n)
	}
}

func TestP13_5GreatSizes(t *testing.T) {
	for i, z := range greatSizes() {
		checkDiffuse(t, filled(z[0], z[1], between(-0.2, 1.2, chance(uint64(i)))), 2+i)
	}
}

// Of one sample alone: what is handed on piles up in the same way everywhere.
func TestP13_5OneSample(t *testing.T) {
	for _, s := range append(edges(), unitSample(1), unitSample(5), unitSample(whole/2-1), unitSample(whole/2+1), unitSample(whole-1)) {
		for _, n := range []int{2, 3, 4, 256} {
			checkDiffuse(t, allOf(13, 11, s), n)
		}
	}
}

// Two rows of two: each part goes where the chapter says. Of 5 units, rounded down: 2, 0 and 1, and 2 are left.
func TestP13_5PartsByHand(t *testing.T) {
	p := planeOf(2, 2, unitSample(5), 0, 0, 0)
	want := [][3]int{{5, 0, 5}, {2, 0, 2}, {1, 0, 1}, {2, 0, 2}}
	// The second one hands 0 on below, 0 to the left, keeps 2 for what falls; the third one's parts are 0, 0, 0 and 1, all but the first one fall.
	if l := trailOf(p, 2); !slices.Equal(l, want) {
		t.Errorf("Trail: %v, want %v", l, want)
	}
	got, fallen, e := dither.Diffuse(p, 2)
	checkPlane(t, "Diffuse", got, e, allOf(2, 2, 0))
	if fallen != 5 {
		t.Errorf("fallen: %d, want 5", fallen)
	}
}

// Below 0 parts are rounded down too: of -5 units -3, -1 and -2, and 1 is left.
func TestP13_5PartsBelowNought(t *testing.T) {
	p := planeOf(2, 2, unitSample(whole-5), 0, unitSample(100), unitSample(100))
	want := [][3]int{{whole - 5, 1, -5}, {-3, 0, -3}, {97, 0, 97}, {142, 0, 142}}
	// To (0, 1): -2 of the first one, -1 of the second one's; to (1, 1): 1, -1 of the second one's, and 42 of the third one's.
	if l := trailOf(p, 2); !slices.Equal(l, want) {
		t.Errorf("Trail: %v, want %v", l, want)
	}
}

// One place: all of it falls. One column: only what goes straight down doesn't.
func TestP13_5AllFalls(t *testing.T) {
	for _, c := range []struct {
		s    uint32
		want uint32
		fell int
	}{{half, 0, whole / 2}, {half + 1, one, 1 - whole/2}, {0, 0, 0}, {one, one, 0}, {made, 0, 0}, {infinity, one, 0}} {
		got, fallen, e := dither.Diffuse(rowOf(c.s), 2)
		checkPlane(t, "one place", got, e, rowOf(c.want))
		if fallen != c.fell {
			t.Errorf("of %08X: %d have fallen, want %d", c.s, fallen, c.fell)
		}
	}
	column := planeOf(1, 3, half, 0, 0)
	want := [][3]int{{8388608, 0, 8388608}, {2621440, 0, 2621440}, {819200, 0, 819200}}
	if l := trailOf(column, 2); !slices.Equal(l, want) {
		t.Errorf("Trail: %v, want %v", l, want)
	}
	if _, fallen, _ := dither.Diffuse(column, 2); fallen != 8388608 {
		t.Errorf("one column: %d have fallen", fallen)
	}
}

// Levels ahead of the plane.
func TestP13_5Refused(t *testing.T) {
	check := func(p api.Plane, n int, want api.Errno) {
		t.Helper()
		got, fallen, e := dither.Diffuse(p, n)
		checkNone(t, fmt.Sprintf("Diffuse of %d by %d, %d", p.W, p.H, n), got, e, want)
		if fallen != 0 {
			t.Fatalf("Diffuse of %d by %d, %d: %d beside an error", p.W, p.H, n, fallen)
		}
		for i, v := range dither.Trail(p, n) {
			t.Fatalf("Trail of %d by %d, %d gives %d, %v", p.W, p.H, n, i, v)
		}
	}
	for _, n := range wrongLevels() {
		check(allOf(3, 2, half), n, api.ErrDitherLevels)
	}
	for _, c := range refusedPlanes() {
		for _, n := range someLevels() {
			check(c.p, n, c.want)
		}
		for _, n := range wrongLevels() {
			check(c.p, n, api.ErrDitherLevels)
		}
	}
}
