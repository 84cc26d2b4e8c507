package curve_test

import (
	"testing"

	"halide/api"
)

// The chapter's section 'Examples'.

func TestExampleOfThreeKnots(t *testing.T) {
	l := knotsOf(0, 0, one, half, two, sampleOf(4))
	c := curveOf(t, l)
	for _, e := range []struct{ x, want uint32 }{
		{half, sampleOf(0.25)},
		{sampleOf(1.5), sampleOf(2.25)},
		{sampleOf(-1), 0},
		{sampleOf(7), sampleOf(4)},
		{0xFFC12345, made},
	} {
		checkAt(t, c.At(e.x), e.want, e.x, l)
	}
	for _, e := range []struct {
		y    uint32
		want api.Proof
		e    api.Errno
	}{
		{sampleOf(0.25), api.Proof{X: half, Below: 0x3EFFFFFF, Has: true}, api.OK},
		{0, api.Proof{X: 0}, api.OK},
		{sampleOf(5), api.Proof{}, api.ErrCurveNone},
	} {
		if p, got := c.Least(e.y); p != e.want || got != e.e {
			t.Errorf("Least(%08X): %s, %d", e.y, shown(p), got)
		}
	}
}

func TestExamplesOfTwoKnots(t *testing.T) {
	flat := knotsOf(0, minusZero, one, minusZero)
	checkAt(t, curveOf(t, flat).At(half), minusZero, half, flat)
	far := sampleOf(3.4e38)
	wide := knotsOf(far|sign, far|sign, far, far)
	checkAt(t, curveOf(t, wide).At(one), plusZero, one, wide)
}
