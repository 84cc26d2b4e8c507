package dither_test

import (
	"fmt"
	"math"
	"slices"
	"testing"

	"halide/api"
	"halide/dither"
)

func TestP13_3Tables(t *testing.T) {
	for _, side := range sides() {
		l, e := dither.Table(side)
		if e != api.OK || len(l) != side {
			t.Fatalf("Table(%d): %d rows, %d", side, len(l), e)
		}
		for y, row := range l {
			if len(row) != side {
				t.Fatalf("Table(%d): %d numbers in row %d", side, len(row), y)
			}
			for x, b := range row {
				if b != tableTold(side, x, y) {
					t.Fatalf("Table(%d) at (%d, %d): %d, want %d", side, x, y, b, tableTold(side, x, y))
				}
			}
		}
	}
}

func TestP13_3TablesByHand(t *testing.T) {
	want := [][]int{{0, 8, 2, 10}, {12, 4, 14, 6}, {3, 11, 1, 9}, {15, 7, 13, 5}}
	if l, e := dither.Table(4); e != api.OK || !slices.EqualFunc(l, want, slices.Equal) {
		t.Errorf("Table(4): %v, %d, want %v", l, e, want)
	}
	if l, e := dither.Table(1); e != api.OK || !slices.EqualFunc(l, [][]int{{0}}, slices.Equal) {
		t.Errorf("Table(1): %v, %d", l, e)
	}
}

func TestP13_3NoSide(t *testing.T) {
	for _, side := range wrongSides() {
		if l, e := dither.Table(side); len(l) != 0 || e != api.ErrDitherSide {
			t.Fatalf("Table(%d): %v, %d", side, l, e)
		}
	}
}

func TestP13_9EachNumberOnce(t *testing.T) {
	for _, side := range sides() {
		all := slices.Concat(must(dither.Table(side))...)
		slices.Sort(all)
		if len(all) != side*side {
			t.Fatalf("Table(%d) has %d numbers", side, len(all))
		}
		for i, b := range all {
			if b != i {
				t.Fatalf("Table(%d) has %d in the place of %d", side, b, i)
			}
		}
	}
}

// 0.5 in two levels: above the threshold where twice b and 1 is below side^2.
func TestP13_4ByHand(t *testing.T) {
	got, e := dither.Ordered(allOf(4, 4, half), 2, 4, 0, 0)
	checkPlane(t, "half", got, e, planeOf(4, 4, one, 0, one, 0, 0, one, 0, one, one, 0, one, 0, 0, one, 0, one))
	got, e = dither.Ordered(allOf(4, 4, half), 2, 4, 1, 0)
	checkPlane(t, "half, moved on", got, e, planeOf(4, 4, 0, one, 0, one, one, 0, one, 0, 0, one, 0, one, one, 0, one, 0))
	got, e = dither.Ordered(allOf(2, 2, sampleOf(0.3)), 2, 2, 0, 0)
	checkPlane(t, "0.3", got, e, planeOf(2, 2, one, 0, 0, 0))
	got, e = dither.Ordered(allOf(2, 2, sampleOf(0.3)), 2, 2, -1, -3)
	checkPlane(t, "0.3, below 0", got, e, planeOf(2, 2, 0, 0, 0, one))
	got, e = dither.Ordered(allOf(2, 2, sampleOf(0.8)), 3, 2, 0, 0)
	checkPlane(t, "0.8 in three levels", got, e, planeOf(2, 2, one, half, half, one))
	got, e = dither.Ordered(rowOf(half, half+1, half-1, half-2), 2, 1, 0, 0)
	checkPlane(t, "at the threshold", got, e, rowOf(0, one, 0, 0))
}

// checkThreshold: about where the level above k begins, at one place of the table.
func checkThreshold(t *testing.T, n, side, k, x, y int) {
	t.Helper()
	units, b := unitsOf(n), tableTold(side, x, y)
	at := units[k] + (2*b+1)*(units[k+1]-units[k])/(2*side*side)
	for u := at - 1; u <= at+2; u++ {
		got, e := dither.Ordered(rowOf(unitSample(u)), n, side, x, y)
		want := levelTold(n, orderedLevel(units, side, b, unitsTold(unitSample(u))))
		checkPlane(t, fmt.Sprintf("%d levels, side %d at (%d, %d), %d units", n, side, x, y, u), got, e, rowOf(want))
	}
}

func TestP13_4AtThresholds(t *testing.T) {
	for _, n := range []int{2, 3, 4, 6, 255, 256} {
		for _, side := range sides() {
			for i := range side * side {
				for _, k := range []int{0, n/2 - 1, n - 2} {
					checkThreshold(t, n, side, k, i%side, i/side)
				}
			}
		}
	}
}

// unitSample: of so many units.
func unitSample(u int) uint32 { return sampleOf(float64(u) / whole) }

func TestP13_4Told(t *testing.T) {
	for _, z := range someSizes() {
		for _, p := range somePlanes(z[0], z[1]) {
			for _, n := range someLevels() {
				for i, side := range sides() {
					x, y := places()[(i*5+n)%len(places())], places()[(i*7+n+3)%len(places())]
					got, e := dither.Ordered(p, n, side, x, y)
					checkPlane(t, fmt.Sprintf("Ordered of %v, %d, %d, %d, %d", z, n, side, x, y), got, e, orderedTold(p, n, side, x, y))
				}
			}
		}
	}
}

// At any ints, each with each.
func TestP13_4Places(t *testing.T) {
	p := filled(20, 18, between(0, 1, chance(4)))
	for _, side := range sides() {
		for _, x := range places() {
			for _, y := range places() {
				got, e := dither.Ordered(p, 2, side, x, y)
				mx, my := modTold(x, 0, side), modTold(y, 0, side)
				checkPlane(t, fmt.Sprintf("side %d at (%d, %d)", side, x, y), got, e, must(dither.Ordered(p, 2, side, mx, my)))
			}
		}
		for _, far := range [][2]int{{math.MaxInt, math.MaxInt - 3}, {math.MinInt, math.MinInt + 5}, {math.MaxInt - 9, math.MinInt}} {
			got, e := dither.Ordered(p, 7, side, far[0], far[1])
			checkPlane(t, fmt.Sprintf("side %d at %v", side, far), got, e, orderedTold(p, 7, side, far[0], far[1]))
		}
	}
}

func TestP13_4GreatSizes(t *testing.T) {
	for i, z := range greatSizes() {
		p := filled(z[0], z[1], between(-0.1, 1.1, chance(uint64(i))))
		n, side := someLevels()[i], sides()[i]
		got, e := dither.Ordered(p, n, side, i, -i)
		checkPlane(t, fmt.Sprintf("Ordered of %v", z), got, e, orderedTold(p, n, side, i, -i))
	}
}

// Levels ahead of the side, the side ahead of the plane.
func TestP13_4Refused(t *testing.T) {
	check := func(p api.Plane, n, side int, want api.Errno) {
		t.Helper()
		for _, x := range []int{0, -1, math.MaxInt} {
			got, e := dither.Ordered(p, n, side, x, -x)
			checkNone(t, fmt.Sprintf("Ordered of %d by %d, %d, %d", p.W, p.H, n, side), got, e, want)
		}
	}
	good := allOf(3, 2, half)
	planes := []api.Plane{good}
	for _, c := range refusedPlanes() {
		planes = append(planes, c.p)
		for _, n := range someLevels() {
			for _, side := range sides() {
				check(c.p, n, side, c.want)
			}
		}
	}
	for _, p := range planes {
		for _, n := range wrongLevels() {
			for _, side := range append(wrongSides(), sides()...) {
				check(p, n, side, api.ErrDitherLevels)
			}
		}
		for _, n := range someLevels() {
			for _, side := range wrongSides() {
				check(p, n, side, api.ErrDitherSide)
			}
		}
	}
}
