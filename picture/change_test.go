package picture_test

import (
	"slices"
	"testing"

	"halide/api"
	"halide/arith"
	"halide/picture"
)

// in: p, but that f is done in the plane n (with -1: in all of them).
func in(p api.Picture, n int, f func(s uint32) uint32) api.Picture {
	return eachSample(p, func(plane int, s uint32) uint32 {
		if n == -1 || n == plane {
			return f(s)
		}
		return s
	})
}

func planeNumbers(p api.Picture) []int {
	l := []int{-1}
	for n := range p.Planes {
		l = append(l, n)
	}
	return l
}

func TestP8_5Map(t *testing.T) {
	turn := func(s uint32) uint32 { return s*2654435761 + 12345 } // bits, also of NaNs, as f tells them
	for _, p := range append(rightPictures(), pictureOf(api.YCC, 4, 256, 256, 9)) {
		for _, n := range planeNumbers(p) {
			got, e := picture.Map(p, n, turn)
			checkPicture(t, "Map", got, e, in(p, n, turn))
			got, e = picture.Map(p, n, same)
			checkPicture(t, "Map", got, e, p)
		}
	}
}

// What f is asked, how often, and in which order.
func TestP8_5MapAsks(t *testing.T) {
	for _, p := range rightPictures() {
		for _, n := range planeNumbers(p) {
			var want, asked []uint32
			for i, q := range p.Planes {
				if n == -1 || n == i {
					want = append(want, q.S...)
				}
			}
			picture.Map(p, n, func(s uint32) uint32 { asked = append(asked, s); return s })
			if !slices.Equal(asked, want) {
				t.Fatalf("Map in the plane %d asks %08X, want %08X", n, asked, want)
			}
		}
	}
}

// Each sample is asked for by itself, also one that stands in several places: what a counting function tells shows the order.
func TestP8_5MapOfOneSample(t *testing.T) {
	count := uint32(0)
	p := must(picture.New(api.RGB, 4, 3, 2, one))
	got, e := picture.Map(p, -1, func(uint32) uint32 { count++; return count })
	checkPicture(t, "Map", got, e, laidOut(api.RGB, 4, 3, 2, func(n, x, y int) uint32 { return uint32(n*6 + y*3 + x + 1) }))
}

func factors() [][2]uint32 {
	l := [][2]uint32{{one, minusZero}, {one, plusZero}, {two, one}, {plusZero, minusZero}, {minusZero, minusZero}, {one + 1, 0xBF800002}, {infinity, one}, {one, infinity | sign}, {made + 9, one}, {one, leastNaN}, {greatest, greatest | sign}, {leastSmall, leastSmall}, {half, 0xFFC00001}}
	next := chance(85)
	for range 20 {
		l = append(l, [2]uint32{next(), next()}, [2]uint32{near(one, next()), near(one, next())})
	}
	return l
}

func TestP8_5Affine(t *testing.T) {
	for i, p := range append(rightPictures(), mixedSamples(api.RGB, 4), mixedSamples(api.Plain, 2)) {
		for j, c := range factors() {
			f := func(s uint32) uint32 { return arith.Fma(s, c[0], c[1]) }
			for _, n := range []int{-1, (i + j) % len(p.Planes)} {
				got, e := picture.Affine(p, n, c[0], c[1])
				checkPicture(t, "Affine", got, e, in(p, n, f))
			}
		}
	}
}

// Rounded once: the product isn't, by itself.
func TestP8_5AffineRoundsOnce(t *testing.T) {
	got, e := picture.Affine(place(api.Plain, one+1), 0, one+1, 0xBF800002)
	checkPicture(t, "Affine", got, e, place(api.Plain, 0x28800000))
	got, e = picture.Affine(place(api.Plain, minusZero, one), 0, one, minusZero)
	checkPicture(t, "Affine", got, e, place(api.Plain, minusZero, one))
	got, e = picture.Affine(place(api.Plain, leastNaN, 0xFFFFFFFF), -1, one, minusZero)
	checkPicture(t, "Affine", got, e, place(api.Plain, made, made))
}

func betweenTold(s, lo, hi uint32) uint32 { return leastTold(greatestTold(s, lo), hi) }

func TestP8_5Between(t *testing.T) {
	l := edges()
	for i, p := range append(rightPictures(), mixedSamples(api.LogRGB, 3), mixedSamples(api.Plain, 4)) {
		for j := range l {
			lo, hi := l[j], l[(j*11+i)%len(l)] // also where lo stands behind hi
			for _, n := range []int{-1, (i + j) % len(p.Planes)} {
				got, e := picture.Between(p, n, lo, hi)
				checkPicture(t, "Between", got, e, in(p, n, func(s uint32) uint32 { return betweenTold(s, lo, hi) }))
			}
		}
	}
}

func TestP8_5NoPlane(t *testing.T) {
	for _, p := range rightPictures() {
		for _, n := range wrongPlanes(p) {
			got, e := picture.Map(p, n, same)
			checkNone(t, "Map", got, e, api.ErrPicturePlane)
			got, e = picture.Affine(p, n, two, one)
			checkNone(t, "Affine", got, e, api.ErrPicturePlane)
			got, e = picture.Between(p, n, one, two)
			checkNone(t, "Between", got, e, api.ErrPicturePlane)
		}
	}
}
