package picture_test

import (
	"math"
	"math/rand"
	"testing"

	"halide/api"
	"halide/picture"
)

// laidOut: a picture by what each place of each plane has.
func laidOut(space, planes, w, h int, at func(n, x, y int) uint32) api.Picture {
	p := api.Picture{Space: space}
	for n := range planes {
		q := api.Plane{W: w, H: h}
		for y := range h {
			for x := range w {
				q.S = append(q.S, at(n, x, y))
			}
		}
		p.Planes = append(p.Planes, q)
	}
	return p
}

func at(p api.Picture, n, x, y int) uint32 { return p.Planes[n].S[y*p.Planes[n].W+x] }

func rectOf(x0, y0, x1, y1 int) api.Rect { return api.Rect{X0: x0, Y0: y0, X1: x1, Y1: y1} }

func cropTold(p api.Picture, r api.Rect) api.Picture {
	return laidOut(p.Space, len(p.Planes), r.X1-r.X0, r.Y1-r.Y0, func(n, x, y int) uint32 { return at(p, n, r.X0+x, r.Y0+y) })
}

func rectsWithin(w, h int) []api.Rect {
	l := []api.Rect{rectOf(0, 0, w, h), rectOf(0, 0, 1, 1), rectOf(w-1, h-1, w, h)}
	r := rand.New(rand.NewSource(int64(83*w + h)))
	for range 8 {
		x, y := r.Intn(w), r.Intn(h)
		l = append(l, rectOf(x, y, x+1+r.Intn(w-x), y+1+r.Intn(h-y)))
	}
	return l
}

func TestP8_3Crop(t *testing.T) {
	for _, p := range append(rightPictures(), pictureOf(api.Lifted, 4, 64, 1024, 1)) {
		for _, r := range rectsWithin(p.Planes[0].W, p.Planes[0].H) {
			got, e := picture.Crop(p, r)
			checkPicture(t, "Crop", got, e, cropTold(p, r))
		}
	}
}

func TestP8_3CropNotWithin(t *testing.T) {
	for _, p := range rightPictures() {
		w, h := p.Planes[0].W, p.Planes[0].H
		for _, r := range []api.Rect{
			{}, rectOf(-1, 0, w, h), rectOf(0, -1, w, h), rectOf(0, 0, w+1, h), rectOf(0, 0, w, h+1), rectOf(-1, -1, w+1, h+1),
			rectOf(0, 0, 0, h), rectOf(0, 0, w, 0), rectOf(w, 0, w, h), rectOf(w, h, w+1, h+1), rectOf(w, h, 0, 0), rectOf(1, 0, 0, h), rectOf(0, 1, w, 0),
			rectOf(math.MinInt, math.MinInt, math.MaxInt, math.MaxInt), rectOf(math.MaxInt, 0, math.MinInt, 1), rectOf(0, 0, math.MaxInt, 1),
		} {
			got, e := picture.Crop(p, r)
			checkNone(t, "Crop", got, e, api.ErrPlaneRect)
		}
	}
}

func pasteTold(p, q api.Picture, x, y int) api.Picture {
	in := func(i, start, n int) bool { return i >= start && i < start+n }
	return laidOut(p.Space, len(p.Planes), p.Planes[0].W, p.Planes[0].H, func(n, px, py int) uint32 {
		if in(px, x, q.Planes[0].W) && in(py, y, q.Planes[0].H) {
			return at(q, n, px-x, py-y)
		}
		return at(p, n, px, py)
	})
}

func TestP8_3Paste(t *testing.T) {
	for _, p := range rightPictures() {
		for _, z := range [][2]int{{1, 1}, {2, 3}, {4, 2}, {20, 20}} {
			q := pictureOf(p.Space, len(p.Planes), z[0], z[1], 30)
			for x := -z[0] - 1; x <= p.Planes[0].W+1; x += 1 + z[0]/8 {
				for y := -z[1] - 1; y <= p.Planes[0].H+1; y += 1 + z[1]/4 {
					got, e := picture.Paste(p, q, x, y)
					checkPicture(t, "Paste", got, e, pasteTold(p, q, x, y))
				}
			}
		}
	}
}

// Pasted far out nothing of it is seen; whatever the numbers are.
func TestP8_3PasteFarOut(t *testing.T) {
	p, q := pictureOf(api.YCC, 4, 5, 4, 1), pictureOf(api.YCC, 4, 9, 9, 2)
	for _, n := range []int{math.MinInt, math.MinInt + 1, -1 << 62, -1 << 32, -9, 5, 1 << 32, 1 << 62, math.MaxInt - 1, math.MaxInt} {
		for _, place := range [][2]int{{n, 0}, {0, n}, {n, n}, {n, -n}} {
			got, e := picture.Paste(p, q, place[0], place[1])
			checkPicture(t, "Paste", got, e, p)
		}
	}
}

func TestP8_3PasteRefused(t *testing.T) {
	for _, p := range rightPictures()[:12] {
		for _, q := range rightPictures()[12:24] {
			got, e := picture.Paste(p, q, 0, 0)
			switch {
			case len(p.Planes) != len(q.Planes): // ahead of the spaces
				checkNone(t, "Paste", got, e, api.ErrPictureForm)
			case p.Space != q.Space:
				checkNone(t, "Paste", got, e, api.ErrPictureSpace)
			default:
				checkPicture(t, "Paste", got, e, pasteTold(p, q, 0, 0))
			}
		}
	}
	got, e := picture.Paste(pictureOf(api.RGB, 3, 2, 2, 0), pictureOf(api.Plain, 3, 2, 2, 0), 50, 50) // also where nothing of it is seen
	checkNone(t, "Paste", got, e, api.ErrPictureSpace)
	got, e = picture.Paste(pictureOf(api.RGB, 3, 2, 2, 0), pictureOf(api.RGB, 4, 2, 2, 0), 50, 50)
	checkNone(t, "Paste", got, e, api.ErrPictureForm)
}
