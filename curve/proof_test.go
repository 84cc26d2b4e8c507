package curve_test

import (
	"fmt"
	"math/rand"
	"testing"

	"halide/api"
	"halide/curve"
)

// asked: what Least and Check are asked of.
type asked interface {
	At(x uint32) uint32
	Least(y uint32) (api.Proof, api.Errno)
	Check(y uint32, p api.Proof) bool
}

func shown(p api.Proof) string { return fmt.Sprintf("{%08X, %08X, %v}", p.X, p.Below, p.Has) }

// wrongs: proofs that are wrong in one field or in several, maybe a right one among them.
func wrongs(p api.Proof, first, last uint32) []api.Proof {
	var all []api.Proof
	for _, x := range append(about(p.X), first, last, ofKey(keyOf(first)-1), ofKey(keyOf(last)+1), p.X^sign, p.Below, made, infinity, infinity|sign) {
		below := ofKey(keyOf(x) - 1)
		for _, b := range append(about(p.Below), below, x, ofKey(keyOf(x)+1), 0, minusZero, made, p.Below^sign) {
			all = append(all, api.Proof{X: x, Below: b}, api.Proof{X: x, Below: b, Has: true})
		}
	}
	return all
}

// holdLeast: Least of y, and Check of its answer and of others, are what the chapter says.
func holdLeast(t *testing.T, c asked, first, last, y uint32, at func(uint32) uint32) {
	t.Helper()
	want, wantE := toldLeast(first, last, y, at)
	got, e := c.Least(y)
	if got != want || e != wantE {
		t.Fatalf("Least(%08X): %s, %d, want %s, %d; from %08X to %08X", y, shown(got), e, shown(want), wantE, first, last)
	}
	if got := c.Check(y, want); got != (wantE == api.OK) {
		t.Fatalf("Check(%08X, %s): %v, with error %d; from %08X to %08X", y, shown(want), got, wantE, first, last)
	}
	for _, p := range wrongs(want, first, last) {
		if got := c.Check(y, p); got != (wantE == api.OK && p == want) {
			t.Fatalf("Check(%08X, %s): %v, Least is %s, %d; from %08X to %08X", y, shown(p), got, shown(want), wantE, first, last)
		}
	}
}

func TestP4_3Least(t *testing.T) {
	for _, l := range someKnots() {
		c, n := curveOf(t, l), len(l)-1
		at := func(x uint32) uint32 { return toldAt(l, x) }
		for i, y := range heightsOf(l, at) {
			if n < 8 || i%8 == 0 {
				holdLeast(t, c, l[0].X, l[n].X, y, at)
			}
		}
		for _, y := range append(endless(), l[0].Y, l[n].Y, ofKey(keyOf(l[n].Y)+1), ofKey(keyOf(l[n].Y)-1)) {
			holdLeast(t, c, l[0].X, l[n].X, y, at)
		}
	}
}

func TestP4_3NothingThere(t *testing.T) {
	for _, l := range namedKnots() {
		c, top := curveOf(t, l), l[len(l)-1].Y
		above := append(nans(), infinity)
		for k := keyOf(top) + 1; k < keyOf(top)+4; k++ {
			if s := ofKey(k); isNaN(s) || isBelow(top, s) {
				above = append(above, s)
			}
		}
		for _, y := range above {
			if p, e := c.Least(y); p != (api.Proof{}) || e != api.ErrCurveNone {
				t.Errorf("Least(%08X): %s, %d; knots %08X", y, shown(p), e, l)
			}
		}
	}
}

// Noughts are one value as y; a first knot at one nought has no places at the other one.
func TestP4_3Noughts(t *testing.T) {
	for _, c := range []struct {
		l    []api.Knot
		y    uint32
		want api.Proof
	}{
		{knotsOf(0, minusZero, one, one), plusZero, api.Proof{X: 0}},
		{knotsOf(minusZero, minusZero, one, one), plusZero, api.Proof{X: minusZero}},
		{knotsOf(9|sign, one|sign, plusZero, minusZero), plusZero, api.Proof{X: minusZero, Below: leastSmall | sign, Has: true}},
		{knotsOf(9|sign, one|sign, minusZero, plusZero), minusZero, api.Proof{X: minusZero, Below: leastSmall | sign, Has: true}},
		{knotsOf(plusZero, minusZero, leastSmall, one), leastSmall, api.Proof{X: leastSmall, Below: plusZero, Has: true}},
		{knotsOf(minusZero, minusZero, leastSmall, one), leastSmall, api.Proof{X: leastSmall, Below: plusZero, Has: true}},
		{knotsOf(plusZero, minusZero, one, minusZero), plusZero, api.Proof{X: plusZero}},
		{knotsOf(minusZero, plusZero, one, plusZero), infinity | sign, api.Proof{X: minusZero}},
	} {
		got, e := curveOf(t, c.l).Least(c.y)
		if got != c.want || e != api.OK {
			t.Errorf("Least(%08X): %s, %d, want %s; knots %08X", c.y, shown(got), e, shown(c.want), c.l)
		}
		at := func(x uint32) uint32 { return toldAt(c.l, x) }
		holdLeast(t, curveOf(t, c.l), c.l[0].X, c.l[len(c.l)-1].X, c.y, at)
	}
}

// Of a curve that can be told place by place a proof is right just if it is the first place that is found by going through them.
func TestP4_4EachPlace(t *testing.T) {
	for _, l := range [][]api.Knot{
		knotsOf(9|sign, 3|sign, 2|sign, 3|sign, 4, 5, 9, 5),
		knotsOf(6|sign, greatest|sign, minusZero, minusZero, 6, greatest),
		knotsOf(one-5, minusZero, one+5, leastSmall),
	} {
		c := curveOf(t, l)
		first, last := keyOf(l[0].X), keyOf(l[len(l)-1].X)
		for _, y := range append(heightsOf(l, c.At), endless()...) {
			want, e := toldLeast(l[0].X, l[len(l)-1].X, y, func(x uint32) uint32 { return toldAt(l, x) })
			for k := first - 2; k <= last+2; k++ {
				for _, below := range []uint32{0, ofKey(k - 1), ofKey(k)} {
					for _, has := range []bool{false, true} {
						p := api.Proof{X: ofKey(k), Below: below, Has: has}
						if got := c.Check(y, p); got != (e == api.OK && p == want) {
							t.Fatalf("Check(%08X, %s): %v, Least is %s, %d; knots %08X", y, shown(p), got, shown(want), e, l)
						}
					}
				}
			}
		}
	}
}

func TestP4_4WrongInEachField(t *testing.T) {
	c := curveOf(t, knotsOf(0, 0, one, half, two, sampleOf(4)))
	y := sampleOf(0.25)
	right := api.Proof{X: half, Below: 0x3EFFFFFF, Has: true}
	if !c.Check(y, right) {
		t.Error("the right one")
	}
	for _, p := range []api.Proof{
		{X: half + 1, Below: half, Has: true},
		{X: 0x3EFFFFFF, Below: 0x3EFFFFFE, Has: true},
		{X: half, Below: 0x3EFFFFFE, Has: true},
		{X: half, Below: half, Has: true},
		{X: half, Below: 0x3EFFFFFF},
		{X: half},
		{X: half, Has: true},
		{},
		{X: made, Below: made - 1, Has: true},
		{X: sampleOf(7), Below: sampleOf(7) - 1, Has: true},
	} {
		if c.Check(y, p) {
			t.Error(shown(p))
		}
	}
	for _, y := range append(nans(), infinity, sampleOf(5), ofKey(keyOf(y)+1), ofKey(keyOf(y)-1), infinity|sign, 0) {
		if c.Check(y, right) {
			t.Errorf("of %08X", y)
		}
	}
}

// chains: of one and of MaxChain curves, and some in between, the named curves in one another's places.
func chains(t *testing.T) ([]*curve.Chain, [][][]api.Knot) {
	r := rand.New(rand.NewSource(46))
	all := someKnots()
	var made []*curve.Chain
	var of [][][]api.Knot
	for i, n := range []int{1, 1, 1, 2, 2, 2, 2, 2, 2, 3, 3, 3, 4, 5, 6, 7, 8, 8, 8, 8} {
		var knots [][]api.Knot
		var curves []*curve.Curve
		for range n {
			l := all[r.Intn(len(all))]
			if i%2 == 0 {
				l = spread(r, 2+r.Intn(9)) // they overlap: much comes through
			}
			knots, curves = append(knots, l), append(curves, curveOf(t, l))
		}
		made, of = append(made, chainOf(t, curves...)), append(of, knots)
	}
	return made, of
}

// spread: n knots that rise about from -2 to 2, both ways.
func spread(r *rand.Rand, n int) []api.Knot {
	l := make([]api.Knot, n)
	for i := range l {
		at := -2 + 4*float32(i)/float32(n-1)
		l[i] = api.Knot{X: sampleOf(at + r.Float32()/float32(n)), Y: sampleOf(at + r.Float32()/float32(n))}
	}
	return l
}

func toldChain(of [][]api.Knot, x uint32) uint32 {
	for _, l := range of {
		x = toldAt(l, x)
	}
	return x
}

func TestP4_6ChainAt(t *testing.T) {
	made, of := chains(t)
	for i, c := range made {
		for _, x := range append(placesOf(of[i][0]), nans()...) {
			checkAt(t, c.At(x), toldChain(of[i], x), x, of[i][0])
		}
	}
}

func TestP4_6ChainLeast(t *testing.T) {
	made, of := chains(t)
	for i, c := range made {
		first := of[i][0]
		at := func(x uint32) uint32 { return toldChain(of[i], x) }
		for j, y := range append(endless(), heightsOf(first, at)...) {
			if j < 12 || j%9 == 0 {
				holdLeast(t, c, first[0].X, first[len(first)-1].X, y, at)
			}
		}
		for _, k := range of[i][len(of[i])-1] {
			holdLeast(t, c, first[0].X, first[len(first)-1].X, k.Y, at)
		}
	}
}

// A chain may stop short of what its last curve comes to.
func TestP4_6ChainStopsShort(t *testing.T) {
	a, b := curveOf(t, knotsOf(0, 0, one, half)), curveOf(t, knotsOf(0, 0, one, one))
	c := chainOf(t, a, b)
	if p, e := c.Least(half); p != (api.Proof{X: one, Below: 0x3F7FFFFF, Has: true}) || e != api.OK {
		t.Errorf("%s, %d", shown(p), e)
	}
	if p, e := c.Least(half + 1); p != (api.Proof{}) || e != api.ErrCurveNone {
		t.Errorf("%s, %d", shown(p), e)
	}
	if c.Check(half+1, api.Proof{X: one, Below: 0x3F7FFFFF, Has: true}) {
		t.Error("Check above what it comes to")
	}
}

func TestP4_6JoinHowMany(t *testing.T) {
	var l []*curve.Curve
	for n := range 20 {
		c, e := curve.Join(l...)
		if n < 1 || n > 8 {
			if c != nil || e != api.ErrCurveMany {
				t.Errorf("Join of %d: %v, %d", n, c, e)
			}
		} else if c == nil || e != api.OK || c.At(0) != sampleOf(float32(n)) {
			t.Errorf("Join of %d: %d", n, e)
		}
		l = append(l, curveOf(t, knotsOf(0, one, sampleOf(100), sampleOf(101)))) // one more
	}
}

// The first curve is asked first.
func TestP4_6JoinInOrder(t *testing.T) {
	double := curveOf(t, knotsOf(0, 0, sampleOf(50), sampleOf(100)))
	more := curveOf(t, knotsOf(0, one, sampleOf(100), sampleOf(101)))
	checkAt(t, chainOf(t, double, more).At(two), sampleOf(5), two, nil)
	checkAt(t, chainOf(t, more, double).At(two), sampleOf(6), two, nil)
	checkAt(t, chainOf(t, double, double, more).At(two), sampleOf(9), two, nil)
}

// What is handed to Join is neither kept nor changed.
func TestP4_6JoinKeepsNoList(t *testing.T) {
	a, b := curveOf(t, knotsOf(0, 0, one, two)), curveOf(t, knotsOf(0, 0, two, one))
	l := []*curve.Curve{a, b, nil}
	c := chainOf(t, l[:2]...)
	if l[0] != a || l[1] != b || l[2] != nil {
		t.Error("the list has changed")
	}
	l[0], l[1] = b, nil
	*b = *curveOf(t, knotsOf(0, 0, two, two))
	checkAt(t, c.At(one), one, one, nil)
	if p, e := c.Least(half); p.X != half || e != api.OK {
		t.Errorf("%s, %d", shown(p), e)
	}
}
