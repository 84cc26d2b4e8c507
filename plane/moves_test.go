package plane_test

import (
	"math"
	"math/big"
	"math/rand"
	"testing"

	"halide/api"
	"halide/plane"
)

// placeOf: x + i, if that is one of n places, reckoned where nothing goes round.
func placeOf(x, i, n int) (int, bool) {
	sum := new(big.Int).Add(big.NewInt(int64(x)), big.NewInt(int64(i)))
	if sum.Sign() < 0 || sum.Cmp(big.NewInt(int64(n))) >= 0 {
		return 0, false
	}
	return int(sum.Int64()), true
}

func toldPaste(p, q api.Plane, x, y int) api.Plane {
	told := told(p.W, p.H, func(x, y int) uint32 { return at(p, x, y) })
	for j := range q.H {
		row, ok := placeOf(y, j, p.H)
		if !ok {
			continue
		}
		for i := range q.W {
			if column, ok := placeOf(x, i, p.W); ok {
				told.S[row*p.W+column] = at(q, i, j)
			}
		}
	}
	return told
}

// At all places at which the two touch, and one beside.
func TestP5_3Paste(t *testing.T) {
	for _, p := range smallPlanes() {
		for _, z := range smallSizes() {
			q := another(z[0], z[1])
			for y := -q.H - 1; y <= p.H+1; y++ {
				for x := -q.W - 1; x <= p.W+1; x++ {
					got, e := plane.Paste(p, q, x, y)
					checkPlane(t, "Paste", got, e, toldPaste(p, q, x, y))
				}
			}
		}
	}
}

func TestP5_3PasteAtAnyNumbers(t *testing.T) {
	p, q := numbered(4, 9), another(5, 4)
	for _, x := range numbers() {
		for _, y := range numbers() {
			got, e := plane.Paste(p, q, x, y)
			checkPlane(t, "Paste", got, e, toldPaste(p, q, x, y))
		}
	}
	great := another(256, 256)
	for _, x := range []int{math.MinInt, math.MinInt + 255, math.MaxInt - 255, math.MaxInt - 256, math.MaxInt, -255, -256, 0} {
		for _, y := range []int{math.MinInt, math.MaxInt - 255, math.MaxInt, -255, -256, 0} {
			got, e := plane.Paste(p, great, x, y)
			checkPlane(t, "Paste", got, e, toldPaste(p, great, x, y))
		}
	}
}

func TestP5_3PasteOfGreatPlanes(t *testing.T) {
	r := rand.New(rand.NewSource(53))
	for _, z := range greatSizes() {
		for _, v := range greatSizes() {
			p, q := numbered(z[0], z[1]), another(v[0], v[1])
			x, y := r.Intn(p.W+q.W)-q.W, r.Intn(p.H+q.H)-q.H
			got, e := plane.Paste(p, q, x, y)
			checkPlane(t, "Paste", got, e, toldPaste(p, q, x, y))
		}
	}
}

func TestP5_4Flip(t *testing.T) {
	for _, p := range somePlanes() {
		got, e := plane.Flip(p, true)
		checkPlane(t, "Flip across", got, e, told(p.W, p.H, func(x, y int) uint32 { return at(p, p.W-1-x, y) }))
		got, e = plane.Flip(p, false)
		checkPlane(t, "Flip", got, e, told(p.W, p.H, func(x, y int) uint32 { return at(p, x, p.H-1-y) }))
	}
}

func TestP5_4Transpose(t *testing.T) {
	for _, p := range somePlanes() {
		got, e := plane.Transpose(p)
		checkPlane(t, "Transpose", got, e, told(p.H, p.W, func(x, y int) uint32 { return at(p, y, x) }))
	}
}

func quarter(p api.Plane) api.Plane {
	return told(p.H, p.W, func(x, y int) uint32 { return at(p, y, p.H-1-x) })
}

func TestP5_4Turn(t *testing.T) {
	for _, p := range somePlanes() {
		turned := []api.Plane{p}
		for i := range 3 {
			turned = append(turned, quarter(turned[i]))
		}
		for _, n := range numbers() {
			if len(p.S) > 100 && n*n > 16 {
				continue
			}
			by := new(big.Int).Mod(big.NewInt(int64(n)), big.NewInt(4)).Int64()
			got, e := plane.Turn(p, n)
			checkPlane(t, "Turn", got, e, turned[by])
		}
	}
}
