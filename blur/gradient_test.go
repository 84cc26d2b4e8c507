package blur_test

import (
	"fmt"
	"testing"

	"halide/api"
	"halide/blur"
)

func checkGradient(t *testing.T, p api.Plane, border int, across, down api.Plane) {
	t.Helper()
	what := fmt.Sprintf("Gradient of %d by %d %08X, %d", p.W, p.H, few(p.S), border)
	gotAcross, gotDown, e := blur.Gradient(p, border)
	checkPlane(t, what+", across", gotAcross, e, across)
	checkPlane(t, what+", down", gotDown, e, down)
}

func TestP11_4Told(t *testing.T) {
	for _, border := range borders() {
		for _, z := range append(someSizes(), [2]int{3, 3}, [2]int{1024, 64}, [2]int{1, 1024}) {
			for _, p := range somePlanes(z[0], z[1]) {
				across, down := gradientTold(p, border)
				checkGradient(t, p, border, across, down)
			}
		}
	}
}

// Of a row and of a column of three: the middle tells the last one less the first one, halved.
func TestP11_4Middle(t *testing.T) {
	for _, c := range []struct{ first, last, want uint32 }{
		{one, three, one},
		{three, one, one | sign},
		{greatest | sign, greatest, greatest}, // the difference is wider than a sample
		{greatest, greatest | sign, greatest | sign},
		{0, leastSmall, 0}, // a tie
		{leastSmall, 0, minusZero},
		{0, 3, 2}, // a tie
		{leastSmall | sign, 2, 2},
		{one | sign, one + 1, one},           // a tie
		{(one + 1) | sign, one + 2, one + 2}, // a tie
		{0x33000000, two, one},               // 2^-25 is lost in binary32
		{0x0D800000, one + 1, half + 1},      // 2^-100 is lost in binary64
		{0x8D800000, one + 1, half + 1},
		{0xB4000000, two + 1, one + 2}, // 2 + 2^-22 and 2^-23: a tie
		{minusZero, 0, 0},
		{0, minusZero, minusZero},
		{0, 0, 0},
		{minusZero, minusZero, 0},
		{infinity, infinity, made},
		{infinity | sign, infinity | sign, made},
		{infinity | sign, infinity, infinity},
		{infinity, greatest, infinity | sign},
		{greatest | sign, infinity | sign, infinity | sign},
	} {
		for _, border := range borders() {
			across, _, e := blur.Gradient(rowOf(c.first, made+1, c.last), border) // what is in the middle doesn't tell
			if e != api.OK || len(across.S) != 3 || across.S[1] != c.want {
				t.Errorf("of %08X and %08X, %d: %08X, %d, want %08X", c.first, c.last, border, across.S, e, c.want)
			}
			_, down, e := blur.Gradient(columnOf(c.first, made+1, c.last), border)
			if e != api.OK || len(down.S) != 3 || down.S[1] != c.want {
				t.Errorf("of %08X and %08X, %d: down %08X, %d, want %08X", c.first, c.last, border, down.S, e, c.want)
			}
		}
	}
}

func TestP11_4NoNumbers(t *testing.T) {
	for _, s := range nans() {
		checkGradient(t, planeOf(2, 2, s, one, one, one), api.Clamp, planeOf(2, 2, made, made, 0, 0), planeOf(2, 2, made, 0, made, 0))
		checkGradient(t, planeOf(1, 1, s), api.Wrap, planeOf(1, 1, made), planeOf(1, 1, made))
	}
}

// Beyond an edge: the first plane goes along the rows, the second one along the columns.
func TestP11_4Borders(t *testing.T) {
	p := planeOf(3, 2, one, three, 0x40E00000, two, two, two) // 1, 3, 7; 2, 2, 2
	const minus = sign
	checkGradient(t, p, api.Clamp, planeOf(3, 2, one, three, two, 0, 0, 0), planeOf(3, 2, half, half|minus, 0xC0200000, half, half|minus, 0xC0200000))
	checkGradient(t, p, api.Mirror, planeOf(3, 2, 0, three, 0, 0, 0, 0), allOf(3, 2, 0))
	checkGradient(t, p, api.Wrap, planeOf(3, 2, two|minus, three, one|minus, 0, 0, 0), allOf(3, 2, 0))
}

func TestP11_4Refused(t *testing.T) {
	check := func(p api.Plane, border int, want api.Errno) {
		t.Helper()
		across, down, e := blur.Gradient(p, border)
		checkNone(t, "Gradient across", across, e, want)
		checkNone(t, "Gradient down", down, e, want)
	}
	for _, c := range refusedPlanes() {
		for _, border := range append(borders(), 0, 4) { // ahead of the border
			check(c.p, border, c.want)
		}
	}
	for _, p := range []api.Plane{allOf(1, 1, one), allOf(3, 2, made), allOf(1024, 64, one)} {
		for _, border := range wrongNumbers() {
			check(p, border, api.ErrPlaneBorder)
		}
	}
}
