package blur_test

import (
	"fmt"
	"slices"
	"testing"

	"halide/api"
	"halide/blur"
)

func checkSharpen(t *testing.T, p api.Plane, kind, radius, border int, amount uint32, want api.Plane) {
	t.Helper()
	got, e := blur.Sharpen(p, kind, radius, border, amount)
	checkPlane(t, fmt.Sprintf("Sharpen of %d by %d %08X, %d, %d, %d, %08X", p.W, p.H, few(p.S), kind, radius, border, amount), got, e, want)
}

func TestP11_5Told(t *testing.T) {
	amounts := slices.Concat(edges(), []uint32{quarter, half, two | sign, 0x3DCCCCCD})
	i := 0
	for _, border := range borders() {
		for _, radius := range []int{0, 1, 2, 7} {
			for _, z := range someSizes() {
				for _, p := range somePlanes(z[0], z[1]) {
					for range 4 {
						i++
						kind, amount := kinds()[i%2], amounts[i*7%len(amounts)]
						checkSharpen(t, p, kind, radius, border, amount, sharpenTold(p, kind, radius, border, amount))
					}
				}
			}
		}
	}
}

func TestP11_5EveryAmount(t *testing.T) {
	next := chance(3)
	planes := append(somePlanes(5, 4), allOf(3, 2, minusZero), allOf(2, 3, 0))
	for _, p := range planes {
		for _, amount := range edges() {
			checkSharpen(t, p, api.Flat, 1, api.Mirror, amount, sharpenTold(p, api.Flat, 1, api.Mirror, amount))
		}
		for range 50 {
			amount := next()
			checkSharpen(t, p, api.Binomial, 2, api.Wrap, amount, sharpenTold(p, api.Binomial, 2, api.Wrap, amount))
		}
	}
}

// By Wrap two samples of a row are both blurred to their mean.
func TestP11_5ByHand(t *testing.T) {
	for _, c := range []struct{ a, b, amount, wantA, wantB uint32 }{
		{one, three, one, 0, four},
		{one, three, half, half, 0x40600000},
		{one, three, one | sign, two, two},
		{one, three, 0, one, three},
		{one, three, minusZero, one, three},
		{one, one, greatest, one, one},
		{0, minusZero, one, 0, minusZero},                        // both are blurred to +0
		{minusZero, minusZero, one, 0, 0},                        // x less x is +0
		{minusZero, minusZero, one | sign, minusZero, minusZero}, // -1 times that is -0
		{one, three, infinity, infinity | sign, infinity},
		{one, one, infinity, made, made}, // no difference, so many times
		{infinity, one, one, made, infinity | sign},
		{infinity, one, one | sign, made, infinity},
		{infinity, infinity | sign, one, made, made},
		{one, three, made + 3, made, made},
		{one, infinity + 1, 0, made, made},
	} {
		checkSharpen(t, rowOf(c.a, c.b), api.Binomial, 1, api.Wrap, c.amount, rowOf(c.wantA, c.wantB))
		checkSharpen(t, columnOf(c.a, c.b), api.Binomial, 1, api.Wrap, c.amount, columnOf(c.wantA, c.wantB))
	}
}

// The difference here is 2^104: half of it, added to the greatest sample, is just too great; what is less isn't.
func TestP11_5TooGreat(t *testing.T) {
	const a, b = greatest, greatest - 2
	for _, c := range []struct{ amount, want uint32 }{
		{half, infinity}, {half - 1, greatest}, {half + 1, infinity}, {one, infinity}, {greatest, infinity}, {quarter, greatest}, {half | sign, greatest - 1}, {greatest | sign, infinity | sign},
	} {
		for _, minus := range []uint32{0, sign} {
			got := must(blur.Sharpen(rowOf(a^minus, b^minus), api.Binomial, 1, api.Wrap, c.amount))
			if got.S[0] != c.want^minus {
				t.Errorf("%08X, %08X by %08X: %08X, want %08X", a^minus, b^minus, c.amount, got.S[0], c.want^minus)
			}
		}
	}
	checkSharpen(t, rowOf(greatest, greatest|sign), api.Binomial, 1, api.Wrap, one, rowOf(infinity, infinity|sign))
}

// The middle is blurred to b, -2^-23 (1 + 2^-23). 1 less b, times 1 - 2^-23, is 1 - 2^-69: that rounded is 1. A product that goes unrounded into the sum, or a difference of fewer bits, would tell another number.
func TestP11_5EachOperationIsRounded(t *testing.T) {
	p := rowOf(two|sign, one, 0xB5000001)
	if soft := must(blur.Blur(p, api.Binomial, 1, api.Clamp)); soft.S[1] != 0xB4000001 {
		t.Fatalf("%08X", soft.S)
	}
	if got := must(blur.Sharpen(p, api.Binomial, 1, api.Clamp, 0xBF7FFFFE)); got.S[1] != 0 {
		t.Errorf("%08X", got.S)
	}
}

// Also where nothing is blurred: a difference of 0.
func TestP11_5RadiusNought(t *testing.T) {
	for _, p := range somePlanes(6, 5) {
		want := clone(p)
		for i, s := range want.S {
			if s&^uint32(sign) >= infinity {
				want.S[i] = made
			} else if s == minusZero {
				want.S[i] = 0
			}
		}
		for _, kind := range kinds() {
			checkSharpen(t, p, kind, 0, api.Clamp, two, want)
		}
	}
}
