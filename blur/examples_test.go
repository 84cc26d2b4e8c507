package blur_test

import (
	"slices"
	"testing"

	"halide/api"
	"halide/blur"
)

// The chapter's section 'Examples', its table of errors, and its limit.

func TestErrorNumber(t *testing.T) {
	if api.ErrBlurKernel != 110 || api.MaxRadius != 7 {
		t.Errorf("ErrBlurKernel: %d, MaxRadius: %d", api.ErrBlurKernel, api.MaxRadius)
	}
}

func TestP11_1Examples(t *testing.T) {
	checkWeights(t, api.Binomial, 2, []int{1, 4, 6, 4, 1})
	checkWeights(t, api.Flat, 1, []int{1, 1, 1})
}

func checkWeights(t *testing.T, kind, radius int, want []int) {
	t.Helper()
	if got, e := blur.Weights(kind, radius); e != api.OK || !slices.Equal(got, want) {
		t.Errorf("Weights(%d, %d): %v, %d, want %v", kind, radius, got, e, want)
	}
}

func TestP11_3Examples(t *testing.T) {
	got, e := blur.Blur(rowOf(0, 0, one, 0, 0), api.Binomial, 1, api.Clamp)
	checkPlane(t, "Blur", got, e, rowOf(0, quarter, half, quarter, 0))
	got, e = blur.Blur(rowOf(three, 0, 0), api.Flat, 1, api.Wrap)
	checkPlane(t, "Blur", got, e, rowOf(one, one, one))
}

func TestP11_4Examples(t *testing.T) {
	across, down, e := blur.Gradient(rowOf(one, two, four), api.Clamp)
	checkPlane(t, "Gradient across", across, e, rowOf(half, 0x3FC00000, one))
	checkPlane(t, "Gradient down", down, e, rowOf(0, 0, 0))
}
