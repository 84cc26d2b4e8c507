package blur_test

import (
	"fmt"
	"testing"

	"halide/api"
	"halide/blur"
)

// checkMiddle: of a row of three, the one in the middle, which weighs all three in order.
func checkMiddle(t *testing.T, kind int, a, b, c, want uint32) {
	t.Helper()
	for _, border := range borders() {
		for _, p := range []api.Plane{rowOf(a, b, c), columnOf(a, b, c)} { // a line of one place weighs one sample alone, which stays as it is
			got, e := blur.Blur(p, kind, 1, border)
			if e != api.OK || got.W != p.W || got.H != p.H || len(got.S) != 3 || got.S[1] != want {
				t.Errorf("Blur(%08X, %d, 1, %d): %08X, %d, want %08X in the middle", p.S, kind, border, got.S, e, want)
			}
		}
	}
}

// From the first to the last: 2^60, and what is lost beside it.
func TestP11_2Order(t *testing.T) {
	const great = 0x5D800000
	checkMiddle(t, api.Flat, great, great|sign, one, 0x3EAAAAAB)
	checkMiddle(t, api.Flat, one, great|sign, great, 0)
	checkMiddle(t, api.Flat, one, great, great|sign, 0)
	checkMiddle(t, api.Flat, great, one, great|sign, 0)
	checkMiddle(t, api.Binomial, great, great|sign, great, 0)
	checkMiddle(t, api.Binomial, great+0x00800000, great|sign, one, quarter)
	checkMiddle(t, api.Binomial, one, great|sign, great+0x00800000, 0)
}

// Each sum is rounded to binary64, the quotient too, and that to binary32.
func TestP11_2Rounding(t *testing.T) {
	const tiny, small, tie = 0x0D800000, 0x26800000, 0x34000000 // 2^-100, 2^-50, 2^-23
	checkMiddle(t, api.Binomial, tie, one, 0, half)             // half-way from 1/2 to the next one: the even one
	checkMiddle(t, api.Binomial, tie, one, tiny, half)          // what is lost in binary64 can't tell
	checkMiddle(t, api.Binomial, tiny, one, tie, half)
	checkMiddle(t, api.Binomial, tie, one, small, half+1) // this isn't lost
	checkMiddle(t, api.Binomial, tie+1, one, 0, half+1)
	checkMiddle(t, api.Binomial, tie-1, one, 0, half)
	checkMiddle(t, api.Flat, 0x40200000, 0x3F000003, 0, one)            // 2.5, 1/2 and three steps: a third of it lies half-way from 1 to the next one
	checkMiddle(t, api.Flat, 0x40200000, 0x3F000003, 0x26000000, one+1) // with 2^-51: above half-way, which a third as a factor wouldn't tell
	checkMiddle(t, api.Flat, leastSmall, 0, 0, 0)
	checkMiddle(t, api.Flat, leastSmall, leastSmall, 0, leastSmall)
	checkMiddle(t, api.Binomial, leastSmall, 0, leastSmall, 0) // a tie
	checkMiddle(t, api.Binomial, 3, 0, 3, 2)                   // a tie
	checkMiddle(t, api.Binomial, leastSmall, leastSmall, 0, leastSmall)
	checkMiddle(t, api.Binomial, leastSmall|sign, 0, leastSmall|sign, minusZero)
}

// Sums are wider than samples.
func TestP11_2GreatSums(t *testing.T) {
	checkMiddle(t, api.Flat, greatest, greatest, greatest|sign, 0x7EAAAAAA)
	checkMiddle(t, api.Binomial, greatest, greatest, greatest|sign, 0x7EFFFFFF)
	checkMiddle(t, api.Binomial, greatest|sign, greatest, greatest|sign, 0)
	checkMiddle(t, api.Flat, greatest, greatest, greatest, greatest)
}

func TestP11_2Signs(t *testing.T) {
	checkMiddle(t, api.Flat, minusZero, minusZero, minusZero, minusZero)
	checkMiddle(t, api.Flat, minusZero, minusZero, 0, 0)
	checkMiddle(t, api.Flat, 0, minusZero, minusZero, 0)
	checkMiddle(t, api.Binomial, one, one|sign, one, 0)
	checkMiddle(t, api.Binomial, one|sign, one, one|sign, 0)
}

func TestP11_2NoNumbers(t *testing.T) {
	for _, kind := range kinds() {
		for _, s := range nans() {
			checkMiddle(t, kind, s, one, one, made)
			checkMiddle(t, kind, one, s, infinity, made)
			checkMiddle(t, kind, one, one, s, made)
		}
		checkMiddle(t, kind, infinity, greatest|sign, one, infinity)
		checkMiddle(t, kind, one, infinity|sign, greatest, infinity|sign)
		checkMiddle(t, kind, infinity, one, infinity|sign, made)
		checkMiddle(t, kind, infinity|sign, infinity, one, made)
	}
}

func checkBlurTold(t *testing.T, p api.Plane, kind, radius, border int) {
	t.Helper()
	got, e := blur.Blur(p, kind, radius, border)
	checkPlane(t, fmt.Sprintf("Blur of %d by %d, %d, %d, %d", p.W, p.H, kind, radius, border), got, e, blurTold(p, kind, radius, border))
}

func TestP11_3Told(t *testing.T) {
	for _, kind := range kinds() {
		for radius := range api.MaxRadius + 1 {
			for _, border := range borders() {
				for _, z := range someSizes() {
					for _, p := range somePlanes(z[0], z[1]) {
						checkBlurTold(t, p, kind, radius, border)
					}
				}
			}
		}
	}
}

func TestP11_3GreatSizes(t *testing.T) {
	for i, z := range [][2]int{{1024, 1}, {1, 1024}, {1024, 64}, {64, 1024}, {256, 256}} {
		next := chance(uint64(z[0]))
		p := filled(z[0], z[1], func() uint32 { return near(next) })
		checkBlurTold(t, p, kinds()[i%2], 1, borders()[i%3])
	}
	next := chance(5)
	p := filled(1024, 3, func() uint32 { return wide(next) })
	checkBlurTold(t, p, api.Binomial, 7, api.Mirror)
	checkBlurTold(t, planeOf(3, 1024, p.S...), api.Flat, 7, api.Wrap)
}

// What stands between is rounded to samples, of the rows first: of two columns and two rows, by Wrap, a row's samples are made the mean of both, and so are a column's.
func TestP11_3BetweenAreSamples(t *testing.T) {
	for _, c := range []struct {
		p    api.Plane
		want uint32
	}{
		{planeOf(2, 2, one, one+1, one+1, one+1), one},     // 1 and the next one; of all four at once: the next one
		{planeOf(2, 2, one, one+1, one+2, one+2), one + 1}, // 1 and the second next one; columns first: the second next one
		{planeOf(2, 2, one, one+2, one+1, one+2), one + 2}, // the next one and (a tie) the second next one: a tie
		{planeOf(2, 2, leastSmall, 0, leastSmall, 0), 0},   // nothing is left of the rows
		{planeOf(2, 2, leastSmall, 2, leastSmall, 0), leastSmall},
		{planeOf(2, 2, leastSmall|sign, 0, leastSmall|sign, 0), minusZero},
		{planeOf(2, 2, infinity, infinity, infinity|sign, one), made},
	} {
		got, e := blur.Blur(c.p, api.Binomial, 1, api.Wrap)
		checkPlane(t, "Blur", got, e, allOf(2, 2, c.want))
	}
}

// Beyond an edge, both ways.
func TestP11_3Borders(t *testing.T) {
	for _, c := range []struct {
		border int
		want   []uint32
	}{
		{api.Clamp, []uint32{0x40A00000, 0x41000000, 0x41300000}},  // 5, 8, 11: of 3, 9, 12
		{api.Mirror, []uint32{0x40E00000, 0x41000000, 0x41200000}}, // 7, 8, 10
		{api.Wrap, []uint32{0x41000000, 0x41000000, 0x41000000}},   // 8, 8, 8
	} {
		l := []uint32{0x40400000, 0x41100000, 0x41400000}
		got, e := blur.Blur(rowOf(l...), api.Flat, 1, c.border)
		checkPlane(t, "Blur of a row", got, e, rowOf(c.want...))
		got, e = blur.Blur(columnOf(l...), api.Flat, 1, c.border)
		checkPlane(t, "Blur of a column", got, e, columnOf(c.want...))
	}
}

func checkRefused(t *testing.T, p api.Plane, kind, radius, border int, want api.Errno) {
	t.Helper()
	what := fmt.Sprintf("%d by %d, %d, %d, %d", p.W, p.H, kind, radius, border)
	got, e := blur.Blur(p, kind, radius, border)
	checkNone(t, "Blur of "+what, got, e, want)
	for _, amount := range []uint32{0, one, made} {
		got, e = blur.Sharpen(p, kind, radius, border, amount)
		checkNone(t, "Sharpen of "+what, got, e, want)
	}
}

// Ahead of all else.
func TestP11_3NoPlane(t *testing.T) {
	for _, c := range refusedPlanes() {
		for _, kind := range []int{api.Binomial, api.Flat, 0, 3} {
			for _, radius := range []int{0, 1, 7, -1, 8} {
				for _, border := range []int{api.Clamp, api.Wrap, 0, 4} {
					checkRefused(t, c.p, kind, radius, border, c.want)
				}
			}
		}
	}
}

// Ahead of the border.
func TestP11_3NoKernel(t *testing.T) {
	p := allOf(3, 2, one)
	for _, border := range append(borders(), wrongNumbers()...) {
		for _, kind := range append(kinds(), wrongKinds()...) {
			for _, radius := range wrongRadii() {
				checkRefused(t, p, kind, radius, border, api.ErrBlurKernel)
			}
		}
		for _, kind := range wrongKinds() {
			for radius := range api.MaxRadius + 1 {
				checkRefused(t, p, kind, radius, border, api.ErrBlurKernel)
			}
		}
	}
}

func TestP11_3NoBorder(t *testing.T) {
	for _, p := range []api.Plane{allOf(1, 1, one), allOf(3, 2, made), allOf(1024, 64, one)} {
		for _, border := range wrongNumbers() {
			for _, kind := range kinds() {
				for radius := range api.MaxRadius + 1 { // with the radius 0 too, which asks for nothing beyond
					checkRefused(t, p, kind, radius, border, api.ErrPlaneBorder)
				}
			}
		}
	}
}
