package mix_test

import (
	"testing"

	"halide/api"
	"halide/arith"
	"halide/mix"
)

// times: what pictures are faded by, and gone between.
func someTimes() []uint32 {
	return append(edges(), quarter, 0x3DCCCCCD, 0x3F4CCCCD, two, three|sign)
}

func TestP15_3Fade(t *testing.T) {
	for _, p := range rightPictures() {
		for _, by := range someTimes() {
			got, e := mix.Fade(p, by)
			checkPicture(t, "Fade", got, e, fadeTold(p, by))
		}
	}
	for i, z := range greatSizes() {
		p := pictureOf(i, 4, z[0], z[1], 3)
		got, e := mix.Fade(p, 0x3F4CCCCD)
		checkPicture(t, "Fade", got, e, eachPlace(p, func(n, i int) uint32 { return arith.Mul(p.Planes[n].S[i], 0x3F4CCCCD) }))
	}
}

// All planes are multiplied, the fourth one too.
func TestP15_3FadeByHand(t *testing.T) {
	for _, c := range []struct {
		by   uint32
		want []uint32
	}{
		{half, []uint32{half, one | sign, minusZero, eighth}},
		{0, []uint32{0, minusZero, minusZero, 0}},
		{infinity, []uint32{infinity, infinity | sign, made, infinity}},
		{made + 9, []uint32{made, made, made, made}},
	} {
		got, e := mix.Fade(place(api.RGB, one, two|sign, minusZero, quarter), c.by)
		checkPicture(t, "Fade", got, e, place(api.RGB, c.want...))
	}
}

func TestP15_3OnePictureRefused(t *testing.T) {
	for _, p := range refusedPictures() {
		for _, by := range []uint32{0, half, one, made} {
			got, e := mix.Fade(p.p, by)
			checkNone(t, "Fade", got, e, p.want)
		}
	}
}

func checkStep(t *testing.T, a, b, by uint32) {
	t.Helper()
	checkSample(t, "Step", mix.Step(a, b, by), stepTold(a, b, by), a, b, by)
}

func TestP15_3StepOfEdges(t *testing.T) {
	for _, a := range edges() {
		for _, b := range edges() {
			for _, by := range someTimes() {
				checkStep(t, a, b, by)
			}
		}
	}
}

func TestP15_3StepByChance(t *testing.T) {
	next := chance(153)
	for range 100000 {
		checkStep(t, next(), next(), next())
		checkStep(t, near(next), near(next), share(next))
		checkStep(t, about(40, next), about(40, next), about(40, next))
		a, by := near(next), share(next)
		if next()%2 == 0 {
			by = about(12, next)
		}
		checkStep(t, a, sampleOf(-value(a)*(1-value(by))/value(by)), by) // the one product takes most of the other one away
		checkStep(t, sampleOf(-value(a)*value(by)/(1-value(by))), a, by)
	}
}

func TestP15_3StepByHand(t *testing.T) {
	for _, c := range []struct {
		what        string
		a, b, by, x uint32
	}{
		{"half the way", one, three, half, two},
		{"beyond the end", one, two, two, three},
		{"ahead of the beginning", one, two, one | sign, 0},
		{"the beginning", 0x3EAAAAAB, infinity, 0, made},
		{"the end", infinity, three, one, made},
		{"towards an infinity", one, infinity | sign, half, infinity | sign},
		{"between unlike infinities", infinity, infinity | sign, half, made},
		{"between like infinities", infinity, infinity, half, infinity},
		{"what is left of 1 is rounded in binary64", one, 0, power(-60), one},
		{"not in binary32", one, one | sign, power(-30), 0x3F800000},
		{"-0 to -0", minusZero, minusZero, half, minusZero},
		{"-0 to +0", minusZero, 0, half, 0},
		{"-0 to 1, at 0", minusZero, one, 0, 0},
		{"-0 to 1, at -0", minusZero, one, minusZero, minusZero},
		{"no a (b - a): that would be too great", greatest | sign, greatest, half, 0},
		{"no a + t (b - a): that would lose a", power(-60), one, one, one},
		{"a is lost only where it weighs nothing", power(60), one, one, one},
		{"a NaN at the end", one, made + 9, 0, made},
		{"a NaN at the beginning", made + 9 | sign, one, one, made},
		{"no time", one, one, infinity + 1, made},
	} {
		checkSample(t, c.what, mix.Step(c.a, c.b, c.by), c.x, c.a, c.b, c.by)
	}
}

func TestP15_3Between(t *testing.T) {
	for i, p := range rightPictures() {
		for _, q := range []api.Picture{like(p, uint64(200+i)), p} {
			for j, by := range someTimes() {
				if (i+j)%5 == 0 {
					got, e := mix.Between(p, q, by)
					checkPicture(t, "Between", got, e, betweenTold(p, q, by))
				}
			}
		}
	}
	for i, z := range greatSizes() {
		p, q := pictureOf(i, 4, z[0], z[1], 4), pictureOf(i, 4, z[0], z[1], 5)
		got, e := mix.Between(p, q, 0x3F4CCCCD)
		checkPicture(t, "Between", got, e, eachPlace(p, func(n, i int) uint32 { return mix.Step(p.Planes[n].S[i], q.Planes[n].S[i], 0x3F4CCCCD) }))
	}
}

// betweenRefused: the first of P15.3's errors.
func betweenRefused(p, q asked) api.Errno {
	switch {
	case p.want != api.OK:
		return p.want
	case q.want != api.OK:
		return q.want
	case p.p.Space != q.p.Space:
		return api.ErrPictureSpace
	case !isSameSize(p.p, q.p) || len(p.p.Planes) != len(q.p.Planes):
		return api.ErrPictureForm
	}
	return api.OK
}

func TestP15_3FirstErrorOfBetween(t *testing.T) {
	for _, p := range allPictures() {
		for _, q := range allPictures() {
			for _, by := range []uint32{0, half, made} {
				got, e := mix.Between(p.p, q.p, by)
				if want := betweenRefused(p, q); want == api.OK {
					checkPicture(t, "Between", got, e, betweenTold(p.p, q.p, by))
				} else {
					checkNone(t, "Between", got, e, want)
				}
			}
		}
	}
}
