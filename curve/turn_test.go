package curve_test

import (
	"slices"
	"testing"

	"halide/api"
	"halide/curve"
)

func TestP4_5Turn(t *testing.T) {
	for _, l := range risingKnots() {
		c, e := curveOf(t, l).Turn()
		if e != api.OK {
			t.Fatalf("Turn: %d; knots %08X", e, l)
		}
		var want []api.Knot
		for _, k := range l {
			want = append(want, api.Knot{X: k.Y, Y: k.X})
		}
		if got := c.Knots(); !slices.Equal(got, want) {
			t.Fatalf("Turn has %08X, want %08X", got, want)
		}
		for _, x := range placesOf(want) {
			checkAt(t, c.At(x), toldAt(want, x), x, want)
		}
	}
	if n := len(risingKnots()); n < 30 {
		t.Errorf("only %d curves can be turned", n)
	}
}

func TestP4_5Flat(t *testing.T) {
	for _, n := range []int{2, 3, 64} {
		for i := 1; i < n; i++ {
			l := stairs(n)
			l[i].Y = l[i-1].Y
			if c, e := curveOf(t, l).Turn(); c != nil || e != api.ErrCurveFlat {
				t.Errorf("flat at %d of %d: %v, %d", i, n, c, e)
			}
		}
	}
	for _, l := range [][]api.Knot{
		knotsOf(0, minusZero, one, plusZero), // unlike as samples, one as values
		knotsOf(0, plusZero, one, minusZero),
		knotsOf(0, one, one, two, two, two),
		knotsOf(0, leastSmall, one, leastSmall, two, one),
	} {
		if c, e := curveOf(t, l).Turn(); c != nil || e != api.ErrCurveFlat {
			t.Errorf("%08X: %v, %d", l, c, e)
		}
	}
}

func TestP4_5TurnLeavesTheCurve(t *testing.T) {
	l := knotsOf(0, one, one, two)
	c := curveOf(t, l)
	turned, _ := c.Turn()
	if !slices.Equal(c.Knots(), l) {
		t.Errorf("%08X", c.Knots())
	}
	checkAt(t, c.At(half), sampleOf(1.5), half, l)
	checkAt(t, turned.At(sampleOf(1.5)), half, sampleOf(1.5), l)
}

func TestP4_6Map(t *testing.T) {
	var asked []uint32
	f := func(x uint32) uint32 {
		asked = append(asked, x)
		return x ^ sign
	}
	for _, n := range []int{0, 1, 2, 7, 1000} {
		room := make([]uint32, n+3)
		for i := range room {
			room[i] = uint32(i * 0x01234567) // NaNs among them
		}
		then := slices.Clone(room)
		asked = nil
		got := curve.Map(f, room[:n])
		if len(got) != n || !slices.Equal(asked, room[:n]) || !slices.Equal(room, then) {
			t.Fatalf("Map of %d: told %d, asked %d", n, len(got), len(asked))
		}
		for i, s := range got {
			if s != room[i]^sign {
				t.Fatalf("Map of %d: %08X at %d, want %08X", n, s, i, room[i]^sign)
			}
		}
		for i := range got[:cap(got)] {
			got[:cap(got)][i] = 99
		}
		if !slices.Equal(room, then) {
			t.Fatal("what Map tells lies in the list")
		}
	}
	if got := curve.Map(f, nil); len(got) != 0 {
		t.Errorf("%08X", got)
	}
}

func TestP4_6MapByCurves(t *testing.T) {
	l := knotsOf(0, 0, one, half, two, sampleOf(4))
	c := curveOf(t, l)
	d := chainOf(t, c, c)
	s := append(finites(), endless()...)
	one, two := curve.Map(c.At, s), curve.Map(d.At, s)
	for i, x := range s {
		checkAt(t, one[i], toldAt(l, x), x, l)
		checkAt(t, two[i], toldAt(l, toldAt(l, x)), x, l)
	}
	same := curve.Map(func(x uint32) uint32 { return x }, s)
	if !slices.Equal(same, s) {
		t.Error("what f answers is copied, NaNs too")
	}
}
