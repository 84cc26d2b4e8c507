package curve_test

import (
	"math/rand"
	"testing"

	"halide/api"
)

func TestP4_2AtOfAllPlaces(t *testing.T) {
	for _, l := range someKnots() {
		c := curveOf(t, l)
		for _, x := range placesOf(l) {
			checkAt(t, c.At(x), toldAt(l, x), x, l)
		}
	}
}

func TestP4_2NaNs(t *testing.T) {
	for _, l := range namedKnots() {
		c := curveOf(t, l)
		for _, x := range nans() {
			checkAt(t, c.At(x), made, x, l)
		}
	}
}

// At a knot and beyond the last ones a Y is copied, its nought's sign too.
func TestP4_2CopiedAtKnotsAndBeyond(t *testing.T) {
	for _, l := range someKnots() {
		c, n := curveOf(t, l), len(l)-1
		for _, k := range l {
			checkAt(t, c.At(k.X), k.Y, k.X, l)
			if k.X&^sign == 0 {
				checkAt(t, c.At(k.X^sign), k.Y, k.X^sign, l)
			}
		}
		checkAt(t, c.At(infinity|sign), l[0].Y, infinity|sign, l)
		checkAt(t, c.At(infinity), l[n].Y, infinity, l)
		checkAt(t, c.At(greatest|sign), l[0].Y, greatest|sign, l)
		checkAt(t, c.At(greatest), l[n].Y, greatest, l)
		checkAt(t, c.At(ofKey(keyOf(l[0].X)-1)), l[0].Y, l[0].X, l)
		checkAt(t, c.At(ofKey(keyOf(l[n].X)+1)), l[n].Y, l[n].X, l)
	}
}

// A flat piece has the bits of the knot ahead of it, whichever nought stands behind it.
func TestP4_2FlatPieces(t *testing.T) {
	for _, y := range []uint32{minusZero, plusZero, leastSmall, one | sign, greatest, greatest | sign} {
		ends := []uint32{y}
		if y&^sign == 0 {
			ends = append(ends, y^sign)
		}
		for _, end := range ends {
			l := knotsOf(greatest|sign, y, one, end, two, end)
			c := curveOf(t, l)
			for _, x := range []uint32{one | sign, minusZero, plusZero, half, 0x3F7FFFFF} {
				checkAt(t, c.At(x), y, x, l)
			}
			checkAt(t, c.At(one), end, one, l)
			checkAt(t, c.At(one+7), end, one+7, l)
		}
	}
}

// What is reckoned to 0 is a +0, what is rounded to 0 has its sign.
func TestP4_2NoughtsReckoned(t *testing.T) {
	for _, c := range []struct {
		l       []api.Knot
		x, want uint32
	}{
		{knotsOf(one|sign, one|sign, one, one), minusZero, plusZero},
		{knotsOf(one|sign, one|sign, one, one), plusZero, plusZero},
		{knotsOf(0, minusZero, one, leastSmall), 0x3E000000, plusZero},
		{knotsOf(0, minusZero, one, leastSmall), 0x3F000001, leastSmall},
		{knotsOf(0, minusZero, one, leastSmall), half, plusZero}, // a tie
		{knotsOf(0, leastSmall|sign, one, minusZero), 0x3F600000, minusZero},
		{knotsOf(0, leastSmall|sign, one, plusZero), half, minusZero}, // a tie
		{knotsOf(0, leastSmall|sign, one, leastSmall), half, plusZero},
	} {
		checkAt(t, curveOf(t, c.l).At(c.x), c.want, c.x, c.l)
		checkAt(t, toldAt(c.l, c.x), c.want, c.x, c.l)
	}
}

// A slope that is rounded up would lead above the knot behind, where that is little beside the one ahead.
func TestP4_2NotAboveTheKnotBehind(t *testing.T) {
	r := rand.New(rand.NewSource(42))
	held := 0
	for range 20000 {
		x1 := sampleOf(1e-20 * (1 + r.Float32()))
		l := knotsOf(sampleOf(-50*(1+r.Float32())), sampleOf(-1e38*(1+r.Float32())), x1, sampleOf(1e-30*r.Float32()))
		x := ofKey(keyOf(x1) - uint32(1+r.Intn(3))) // as far from x0 as x1 is, rounded
		want := toldAt(l, x)
		checkAt(t, curveOf(t, l).At(x), want, x, l)
		if want == l[1].Y {
			held++
		}
	}
	if held < 100 {
		t.Errorf("the knot behind has held in only %d of 20000", held)
	}
}

// All places of curves that are so short that each one can be asked.
func TestP4_2EachPlace(t *testing.T) {
	for _, l := range namedKnots() {
		first, last := keyOf(l[0].X), keyOf(l[len(l)-1].X)
		if last-first > 1000 {
			continue
		}
		c := curveOf(t, l)
		for k := first - 3; k <= last+3; k++ {
			checkAt(t, c.At(ofKey(k)), toldAt(l, ofKey(k)), ofKey(k), l)
		}
	}
}

func TestP4_2ManyByChance(t *testing.T) {
	r := rand.New(rand.NewSource(43))
	for range 4000 {
		l := chanceKnots(r, 2+r.Intn(4))
		c := curveOf(t, l)
		from, to := int64(keyOf(l[0].X)), int64(keyOf(l[len(l)-1].X))
		for range 8 {
			x := ofKey(uint32(from + r.Int63n(to-from+1)))
			checkAt(t, c.At(x), toldAt(l, x), x, l)
		}
	}
}
