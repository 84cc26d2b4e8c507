package curve_test

import (
	"slices"
	"testing"

	"halide/api"
	"halide/curve"
)

func checkRefused(t *testing.T, l []api.Knot, want api.Errno) {
	t.Helper()
	if c, e := curve.New(l); c != nil || e != want {
		t.Errorf("New(%08X): %v, %d, want %d", l, c, e, want)
	}
}

// stairs: n knots that rise by one.
func stairs(n int) []api.Knot {
	var l []api.Knot
	for i := range n {
		l = append(l, api.Knot{X: sampleOf(float32(i)), Y: sampleOf(float32(i - 9))})
	}
	return l
}

func TestP4_1ErrorNumbers(t *testing.T) {
	for want, e := range map[int]api.Errno{0: api.OK, 40: api.ErrCurveMany, 41: api.ErrCurveKnot, 42: api.ErrCurveOrder, 43: api.ErrCurveNone, 44: api.ErrCurveFlat} {
		if int(e) != want {
			t.Errorf("%d, want %d", e, want)
		}
	}
	if api.MaxKnots != 64 || api.MaxChain != 8 {
		t.Error("limits")
	}
}

func TestP4_1HowManyKnots(t *testing.T) {
	for n := range 200 {
		if n < 2 || n > 64 {
			checkRefused(t, stairs(n), api.ErrCurveMany)
		} else if got := curveOf(t, stairs(n)).Knots(); !slices.Equal(got, stairs(n)) {
			t.Errorf("%d knots: %08X", n, got)
		}
	}
	checkRefused(t, nil, api.ErrCurveMany)
	checkRefused(t, []api.Knot{}, api.ErrCurveMany)
}

func TestP4_1KnotsThatAreNotFinite(t *testing.T) {
	for _, n := range []int{2, 3, 64} {
		for i := range n {
			for _, s := range endless() {
				l := stairs(n)
				l[i].X = s
				checkRefused(t, l, api.ErrCurveKnot)
				l = stairs(n)
				l[i].Y = s
				checkRefused(t, l, api.ErrCurveKnot)
			}
		}
	}
}

func TestP4_1KnotsThatDoNotRise(t *testing.T) {
	for _, n := range []int{2, 3, 64} {
		for i := 1; i < n; i++ {
			l := stairs(n)
			l[i].X = l[i-1].X
			checkRefused(t, l, api.ErrCurveOrder)
			l[i].X = lower(l[i-1].X)
			checkRefused(t, l, api.ErrCurveOrder)
			l = stairs(n)
			l[i].Y = lower(l[i-1].Y)
			checkRefused(t, l, api.ErrCurveOrder)
			l = stairs(n)
			l[i].Y = l[i-1].Y
			curveOf(t, l)
		}
	}
	for _, l := range [][]api.Knot{
		knotsOf(minusZero, 0, plusZero, one), // of one value, whichever comes first
		knotsOf(plusZero, 0, minusZero, one),
		knotsOf(leastSmall, 0, minusZero, one),
		knotsOf(greatest, 0, greatest|sign, one),
		knotsOf(one|sign, 0, two|sign, one),
		knotsOf(0, leastSmall, one, minusZero),
		knotsOf(0, plusZero, one, leastSmall|sign),
		knotsOf(0, greatest, one, greatest|sign),
	} {
		checkRefused(t, l, api.ErrCurveOrder)
	}
}

func TestP4_1NoughtsAsKnots(t *testing.T) {
	for _, l := range [][]api.Knot{
		knotsOf(0, minusZero, one, plusZero),
		knotsOf(0, plusZero, one, minusZero), // not below, by value
		knotsOf(0, plusZero, one, minusZero, two, plusZero),
		knotsOf(minusZero, one, leastSmall, one),
		knotsOf(leastSmall|sign, one, minusZero, one),
		knotsOf(leastSmall|sign, leastSmall|sign, plusZero, minusZero, leastSmall, leastSmall),
	} {
		if got := curveOf(t, l).Knots(); !slices.Equal(got, l) {
			t.Errorf("%08X, want %08X", got, l)
		}
	}
}

func TestP4_1FirstErrorFirst(t *testing.T) {
	many := append(stairs(64), api.Knot{X: made, Y: infinity})
	checkRefused(t, many, api.ErrCurveMany)
	checkRefused(t, append(stairs(64), stairs(1)...), api.ErrCurveMany)
	checkRefused(t, knotsOf(made, made), api.ErrCurveMany)
	checkRefused(t, knotsOf(two, two, one, one, sampleOf(9), made), api.ErrCurveKnot)
	checkRefused(t, knotsOf(two, two, one, one, infinity, two), api.ErrCurveKnot)
	checkRefused(t, knotsOf(infinity, 0, infinity|sign, one), api.ErrCurveKnot)
}

func TestP4_1KnotsToldOfAll(t *testing.T) {
	for _, l := range someKnots() {
		if got := curveOf(t, l).Knots(); !slices.Equal(got, l) {
			t.Fatalf("%08X, want %08X", got, l)
		}
	}
}

// DOC.md, 'What holds everywhere', 3: a curve keeps no list that it was handed, and hands out none that it keeps; spare room stays as it is.
func TestKnotsAreNobodysMemory(t *testing.T) {
	room := knotsOf(0, 0, one, one, two, two)
	then := slices.Clone(room)
	c := curveOf(t, room[:2])
	c.At(half)
	c.Least(half)
	c.Turn()
	if !slices.Equal(room, then) {
		t.Fatalf("the list has changed: %08X", room)
	}
	room[0].Y, room[1] = made, api.Knot{}
	told := c.Knots()
	for i := range told[:cap(told)] {
		told[:cap(told)][i] = api.Knot{X: made, Y: made}
	}
	if got := c.Knots(); !slices.Equal(got, then[:2]) {
		t.Errorf("knots changed from without: %08X", got)
	}
	checkAt(t, c.At(half), half, half, then[:2])
}

// A curve and a chain that neither New nor Join has made tell something, and don't panic.
func TestNothingMade(t *testing.T) {
	var none curve.Curve
	var unjoined curve.Chain
	for _, s := range append(finites(), endless()...) {
		none.At(s)
		unjoined.At(s)
		none.Least(s)
		unjoined.Least(s)
		none.Check(s, api.Proof{X: s})
		unjoined.Check(s, api.Proof{X: s, Has: true})
	}
	none.Turn()
	chainOf(t, &none).Least(one)
	if l := none.Knots(); len(l) != 0 {
		t.Errorf("%08X", l)
	}
}
