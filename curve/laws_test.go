package curve_test

import (
	"slices"
	"testing"

	"halide/api"
)

// holdRise: P4.7 at some places, with what the last curve's knots are from and to.
func holdRise(t *testing.T, c asked, places []uint32, last []api.Knot) {
	t.Helper()
	slices.SortFunc(places, func(a, b uint32) int { return valueOf(a).Cmp(valueOf(b)) })
	low, top := last[0].Y, last[len(last)-1].Y
	for i, x := range places {
		y := c.At(x)
		if isNaN(y) || isBelow(y, low) || isBelow(top, y) {
			t.Fatalf("At(%08X) is %08X, out of %08X to %08X", x, y, low, top)
		}
		if i == 0 {
			continue
		}
		ahead := c.At(places[i-1])
		if isBelow(y, ahead) {
			t.Fatalf("At falls from %08X: %08X to %08X: %08X; knots %08X", places[i-1], ahead, x, y, last)
		}
		if valueOf(x).Cmp(valueOf(places[i-1])) == 0 && isBelow(ahead, y) {
			t.Fatalf("At of %08X and %08X, one value: %08X, %08X", places[i-1], x, ahead, y)
		}
	}
}

func TestP4_7AtRises(t *testing.T) {
	for _, l := range someKnots() {
		c := curveOf(t, l)
		places := placesOf(l)
		for _, k := range l { // many one beside the other, where rounding would show
			for d := uint32(0); d < 20; d++ {
				places = append(places, ofKey(keyOf(k.X)-d), ofKey(keyOf(k.X)+d))
			}
		}
		holdRise(t, c, slices.DeleteFunc(places, isNaN), l)
	}
}

func TestP4_7ChainsRise(t *testing.T) {
	made, of := chains(t)
	for i, c := range made {
		holdRise(t, c, placesOf(of[i][0]), of[i][len(of[i])-1])
	}
}

// holdFirst: P4.8, of a curve or a chain from first to last.
func holdFirst(t *testing.T, c asked, first, last uint32, places, heights []uint32) {
	t.Helper()
	for _, y := range heights {
		p, e := c.Least(y)
		if e == api.OK && isBelow(c.At(p.X), y) {
			t.Fatalf("At of Least(%08X) is %08X", y, c.At(p.X))
		}
		if !isBelow(c.At(first), y) && (p != api.Proof{X: first} || e != api.OK) {
			t.Fatalf("Least(%08X), not above what the first place %08X has: %s, %d", y, first, shown(p), e)
		}
	}
	for _, x := range places {
		if k := keyOf(x); k < keyOf(first) || k > keyOf(last) {
			continue
		}
		if p, e := c.Least(c.At(x)); e != api.OK || keyOf(p.X) > keyOf(x) || !c.Check(c.At(x), p) {
			t.Fatalf("Least(At(%08X)): %s, %d", x, shown(p), e)
		}
	}
}

func TestP4_8Least(t *testing.T) {
	for _, l := range someKnots() {
		c := curveOf(t, l)
		holdFirst(t, c, l[0].X, l[len(l)-1].X, placesOf(l), heightsOf(l, c.At))
	}
}

func TestP4_8LeastOfChains(t *testing.T) {
	made, of := chains(t)
	for i, c := range made {
		l := of[i][0]
		holdFirst(t, c, l[0].X, l[len(l)-1].X, placesOf(l), heightsOf(l, c.At))
	}
}

func TestP4_9TurnedBack(t *testing.T) {
	for _, l := range risingKnots() {
		c := curveOf(t, l)
		turned, e := c.Turn()
		if e != api.OK {
			t.Fatalf("Turn: %d; knots %08X", e, l)
		}
		back, e := turned.Turn()
		if e != api.OK || !slices.Equal(back.Knots(), l) {
			t.Fatalf("Turn's Turn: %d; knots %08X", e, l)
		}
		for i, k := range l {
			if x := turned.At(k.Y); valueOf(x).Cmp(valueOf(k.X)) != 0 {
				t.Fatalf("Turn's At(%08X): %08X, want %08X", k.Y, x, k.X)
			}
			if i == 0 {
				continue
			}
			for _, x := range placesOf(l[i-1 : i+1]) {
				if isBelow(x, l[i-1].X) || isBelow(k.X, x) {
					continue
				}
				if b := turned.At(c.At(x)); isBelow(b, l[i-1].X) || isBelow(k.X, b) {
					t.Fatalf("Turn's At(At(%08X)): %08X, from %08X to %08X", x, b, l[i-1].X, k.X)
				}
			}
		}
	}
}
