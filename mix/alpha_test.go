package mix_test

import (
	"testing"

	"halide/api"
	"halide/arith"
	"halide/mix"
)

func TestP15_4MultiplyAndDivide(t *testing.T) {
	for _, p := range withAlpha(rightPictures()) {
		got, e := mix.Multiply(p)
		checkPicture(t, "Multiply", got, e, byAlphaTold(p, productTold))
		got, e = mix.Divide(p)
		checkPicture(t, "Divide", got, e, byAlphaTold(p, quotientTold))
	}
}

// Each edge over each alpha: in each of the three planes.
func TestP15_4Edges(t *testing.T) {
	l := edges()
	n := len(l)
	p := api.Picture{Space: api.Lifted}
	for k := range 4 {
		s := make([]uint32, n*n)
		for i := range s {
			s[i] = l[(i%n+11*k)%n]
			if k == 3 {
				s[i] = l[i/n]
			}
		}
		p.Planes = append(p.Planes, api.Plane{W: n, H: n, S: s})
	}
	got, e := mix.Multiply(p)
	checkPicture(t, "Multiply", got, e, byAlphaTold(p, productTold))
	got, e = mix.Divide(p)
	checkPicture(t, "Divide", got, e, byAlphaTold(p, quotientTold))
}

func TestP15_4GreatSizes(t *testing.T) {
	for i, z := range greatSizes() {
		p := pictureOf(i, 4, z[0], z[1], 6)
		got, e := mix.Multiply(p)
		checkPicture(t, "Multiply", got, e, byAlphaTold(p, arith.Mul))
		got, e = mix.Divide(p)
		checkPicture(t, "Divide", got, e, byAlphaTold(p, func(s, a uint32) uint32 {
			if arith.Equal(a, 0) {
				return 0
			}
			return arith.Div(s, a)
		}))
	}
}

// Behind an alpha of 0 there is +0, whatever went in; an alpha is copied, of whatever kind.
func TestP15_4Noughts(t *testing.T) {
	for _, s := range edges() {
		for _, a := range []uint32{0, minusZero} {
			got, e := mix.Divide(place(api.RGB, s, s, s, a))
			checkPicture(t, "Divide", got, e, place(api.RGB, 0, 0, 0, a))
		}
		for _, a := range bothSigns(leastSmall, leastNormal) {
			got, e := mix.Divide(place(api.RGB, s, s, s, a))
			want := quotientTold(s, a)
			checkPicture(t, "Divide", got, e, place(api.RGB, want, want, want, a))
		}
	}
	for _, a := range nans() {
		for _, do := range []func(api.Picture) (api.Picture, api.Errno){mix.Multiply, mix.Divide} {
			got, e := do(place(api.RGB, half, 0, infinity, a))
			checkPicture(t, "of a NaN as alpha", got, e, place(api.RGB, made, made, made, a))
		}
	}
}

func TestP15_4ByHand(t *testing.T) {
	p := place(api.YCC, half, three|sign, minusZero, quarter)
	got, e := mix.Multiply(p)
	checkPicture(t, "Multiply", got, e, place(api.YCC, eighth, 0xBF400000, minusZero, quarter))
	got, e = mix.Divide(p)
	checkPicture(t, "Divide", got, e, place(api.YCC, two, 0xC1400000, minusZero, quarter))
	p = place(api.Plain, infinity, 0, greatest, infinity|sign)
	got, e = mix.Multiply(p)
	checkPicture(t, "Multiply", got, e, place(api.Plain, infinity|sign, made, infinity|sign, infinity|sign))
	got, e = mix.Divide(p)
	checkPicture(t, "Divide", got, e, place(api.Plain, made, minusZero, minusZero, infinity|sign))
}

func TestP15_4FirstError(t *testing.T) {
	for _, p := range allPictures() {
		want := p.want
		if want == api.OK && len(p.p.Planes) != 4 {
			want = api.ErrMixAlpha
		}
		for _, do := range []func(api.Picture) (api.Picture, api.Errno){mix.Multiply, mix.Divide} {
			got, e := do(p.p)
			if want != api.OK {
				checkNone(t, "Multiply, Divide", got, e, want)
			} else if e != api.OK {
				t.Fatalf("Multiply, Divide: %d", e)
			}
		}
	}
}
