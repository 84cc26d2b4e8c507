package dither_test

import (
	"fmt"
	"math"
	"testing"

	"halide/api"
	"halide/dither"
)

// unitOfLevel: of a sample that is a level its unit; false, if it is none.
func unitOfLevel(n int, s uint32) (int, bool) {
	for k := range n {
		if must(dither.Level(n, k)) == s {
			return must(dither.Unit(n, k)), true
		}
	}
	return 0, false
}

func checkNothingLost(t *testing.T, p api.Plane, n int) {
	t.Helper()
	q, fallen, e := dither.Diffuse(p, n)
	if e != api.OK {
		t.Fatal(e)
	}
	sum := 0
	for i, s := range q.S {
		u, ok := unitOfLevel(n, s)
		if !ok {
			t.Fatalf("%08X is none of %d levels", s, n)
		}
		sum += dither.Units(p.S[i]) - u
	}
	if sum != fallen {
		t.Fatalf("%d by %d in %d levels: %d are lost", p.W, p.H, n, sum-fallen)
	}
}

func TestP13_7NothingIsLost(t *testing.T) {
	for _, z := range append(someSizes(), [2]int{61, 40}) {
		for _, p := range somePlanes(z[0], z[1]) {
			for _, n := range someLevels() {
				checkNothingLost(t, p, n)
			}
		}
	}
	for i, z := range greatSizes() {
		checkNothingLost(t, filled(z[0], z[1], between(0, 1, chance(uint64(i)))), 2+3*i)
	}
}

// cropTold: the places of r.
func cropTold(p api.Plane, r api.Rect) api.Plane {
	told := planeOf(r.X1-r.X0, r.Y1-r.Y0)
	for y := r.Y0; y < r.Y1; y++ {
		told.S = append(told.S, p.S[y*p.W+r.X0:y*p.W+r.X1]...)
	}
	return told
}

func TestP13_8Pieces(t *testing.T) {
	for _, p := range somePlanes(21, 19) {
		for _, side := range sides() {
			for _, at := range [][2]int{{0, 0}, {3, 5}, {-7, 12}, {math.MaxInt - 4, math.MaxInt - 9}, {math.MinInt, -1}} {
				for _, n := range []int{2, 5, 256} {
					all := must(dither.Ordered(p, n, side, at[0], at[1]))
					for _, r := range []api.Rect{{X1: 21, Y1: 19}, {X1: 1, Y1: 1}, {X0: 20, Y0: 18, X1: 21, Y1: 19}, {X0: 5, Y0: 2, X1: 9, Y1: 18}, {X0: 1, Y0: 1, X1: 20, Y1: 2}, {X0: 16, Y0: 0, X1: 21, Y1: 19}} {
						got, e := dither.Ordered(cropTold(p, r), n, side, at[0]+r.X0, at[1]+r.Y0)
						checkPlane(t, fmt.Sprintf("side %d at %v, %v", side, at, r), got, e, cropTold(all, r))
					}
				}
			}
		}
	}
}

// raised: none below p's by value, some a sample above, some far, some as they were.
func raised(p api.Plane, next func() uint32) api.Plane {
	q := planeOf(p.W, p.H)
	for _, s := range p.S {
		f := math.Float32frombits(s)
		switch next() % 3 {
		case 0:
			f = math.Nextafter32(f, float32(math.Inf(1)))
		case 1:
			f += float32(next()%1000) / 4000
		}
		q.S = append(q.S, math.Float32bits(f))
	}
	return q
}

func TestP13_8Rises(t *testing.T) {
	next := chance(8)
	for _, side := range sides() {
		for n := 2; n <= 256; n += 1 + n/8 {
			for range 4 {
				p := filled(17, 9, between(-0.1, 1.1, next))
				q := raised(p, next)
				low, high := must(dither.Ordered(p, n, side, 3, 4)), must(dither.Ordered(q, n, side, 3, 4))
				for i := range low.S {
					if math.Float32frombits(low.S[i]) > math.Float32frombits(high.S[i]) {
						t.Fatalf("%d levels, side %d: of %08X %08X, of %08X %08X", n, side, p.S[i], low.S[i], q.S[i], high.S[i])
					}
				}
			}
		}
	}
}

// Whole numbers of units, one after the other, by a threshold each.
func TestP13_8RisesStepByStep(t *testing.T) {
	for _, n := range []int{2, 256} {
		for b, at := range [][2]int{{0, 0}, {1, 1}, {1, 0}, {0, 1}} {
			before := uint32(0)
			for u := 0; u <= whole; u += 997 {
				s := must(dither.Ordered(rowOf(unitSample(u)), n, 2, at[0], at[1])).S[0]
				if s < before { // no sample here is below 0
					t.Fatalf("%d levels, b %d: at %d units %08X, below %08X", n, b, u, s, before)
				}
				before = s
			}
		}
	}
}

func TestP13_8NoughtAndOne(t *testing.T) {
	for n := 2; n <= 256; n++ {
		for _, side := range sides() {
			for s, want := range map[uint32]uint32{0: 0, minusZero: 0, one: one} {
				got, e := dither.Ordered(allOf(16, 16, s), n, side, 0, 0)
				checkPlane(t, fmt.Sprintf("%08X in %d levels, side %d", s, n, side), got, e, allOf(16, 16, want))
			}
		}
	}
}

// What is asked ahead of a call is not seen in its answer.
func TestP13_4AnswersHangOnArgumentsAlone(t *testing.T) {
	p := somePlanes(9, 8)[0]
	want := must(dither.Ordered(p, 3, 4, 1, 1))
	for _, n := range someLevels() {
		for _, side := range sides() {
			must(dither.Ordered(allOf(5, 9, half), n, side, 2, 3))
			must(dither.Table(side))
			dither.Diffuse(p, n)
			got, e := dither.Ordered(p, 3, 4, 1, 1)
			checkPlane(t, "Ordered", got, e, want)
		}
	}
}
