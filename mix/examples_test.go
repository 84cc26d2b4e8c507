package mix_test

import (
	"testing"

	"halide/api"
	"halide/mix"
)

// The chapter's section 'Examples', its table of errors, and its kinds.

func TestErrorNumbers(t *testing.T) {
	if api.ErrMixKind != 150 || api.ErrMixAlpha != 151 {
		t.Errorf("ErrMixKind: %d, ErrMixAlpha: %d", api.ErrMixKind, api.ErrMixAlpha)
	}
	if api.MixOver != 1 || api.MixIn != 2 || api.MixOut != 3 || api.MixAtop != 4 || api.MixXor != 5 || api.MixPlus != 6 {
		t.Error("kinds")
	}
}

func TestP15_1Example(t *testing.T) {
	checkSample(t, "Over", must(mix.One(api.MixOver, half, half, one, one)), one)
	checkSample(t, "In", must(mix.One(api.MixIn, half, half, one, quarter)), eighth)
	checkSample(t, "Xor", must(mix.One(api.MixXor, half, half, half, half)), half)
	if s, e := mix.One(7, half, half, half, half); s != 0 || e != api.ErrMixKind {
		t.Errorf("kind 7: %08X, %d", s, e)
	}
}

func TestP15_3Example(t *testing.T) {
	checkSample(t, "Step", mix.Step(one, three, quarter), 0x3FC00000)
	checkSample(t, "Step to an infinity", mix.Step(one, infinity, 0), made)
}

func TestP15_4Example(t *testing.T) {
	got, e := mix.Divide(place(api.RGB, half, half, half, quarter))
	checkPicture(t, "Divide", got, e, place(api.RGB, two, two, two, quarter))
	got, e = mix.Divide(place(api.RGB, half, half, half, minusZero))
	checkPicture(t, "Divide by -0", got, e, place(api.RGB, 0, 0, 0, minusZero))
	got, e = mix.Multiply(place(api.RGB, 0x7FC00001, 0x7FC00001, 0x7FC00001, one))
	checkPicture(t, "Multiply of a NaN", got, e, place(api.RGB, made, made, made, one))
}
