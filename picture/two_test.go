package picture_test

import (
	"math"
	"testing"

	"halide/api"
	"halide/arith"
	"halide/picture"
)

func kinds() []int { return []int{api.Add, api.Sub, api.Mul, api.Least, api.Greatest} }

func wrongKinds() []int {
	return []int{0, 6, -1, -5, 7, 256, 257, 261, 1 << 32, 1<<32 + 1, math.MinInt, math.MinInt + 1, math.MaxInt}
}

func toldOfTwo(kind int, a, b uint32) uint32 {
	switch kind {
	case api.Add:
		return arith.Add(a, b)
	case api.Sub:
		return arith.Sub(a, b)
	case api.Mul:
		return arith.Mul(a, b)
	case api.Least:
		return leastTold(a, b)
	}
	return greatestTold(a, b)
}

func twoTold(kind int, p, q api.Picture) api.Picture {
	return laidOut(p.Space, len(p.Planes), p.Planes[0].W, p.Planes[0].H, func(n, x, y int) uint32 {
		return toldOfTwo(kind, at(p, n, x, y), at(q, n, x, y))
	})
}

// like: a picture of the form of p, with other samples.
func like(p api.Picture, start int) api.Picture {
	return pictureOf(p.Space, len(p.Planes), p.Planes[0].W, p.Planes[0].H, start)
}

func TestP8_7Kinds(t *testing.T) {
	if api.Add != 1 || api.Sub != 2 || api.Mul != 3 || api.Least != 4 || api.Greatest != 5 {
		t.Error("kinds")
	}
}

func TestP8_7Two(t *testing.T) {
	for _, kind := range kinds() {
		for i, p := range append(rightPictures(), mixedSamples(api.RGB, 4), mixedSamples(api.Plain, 1), pictureOf(api.Plain, 2, 256, 256, 0)) {
			for _, q := range []api.Picture{like(p, i+3), like(p, i+17), p} {
				got, e := picture.Two(kind, p, q)
				checkPicture(t, "Two", got, e, twoTold(kind, p, q))
				got, e = picture.Two(kind, q, p)
				checkPicture(t, "Two", got, e, twoTold(kind, q, p))
			}
		}
	}
}

// Every edge with every edge.
func TestP8_7TwoOfEdges(t *testing.T) {
	l := edges()
	n := len(l)
	p := laidOut(api.Plain, 1, n, n, func(_, x, _ int) uint32 { return l[x] })
	q := laidOut(api.Plain, 1, n, n, func(_, _, y int) uint32 { return l[y] })
	for _, kind := range kinds() {
		got, e := picture.Two(kind, p, q)
		checkPicture(t, "Two", got, e, twoTold(kind, p, q))
	}
}

func TestP8_7NoKind(t *testing.T) {
	p := pictureOf(api.RGB, 3, 2, 3, 0)
	for _, kind := range wrongKinds() {
		for _, q := range []api.Picture{p, like(p, 3), pictureOf(api.RGB, 4, 2, 3, 0), pictureOf(api.RGB, 3, 3, 2, 0), pictureOf(api.YCC, 3, 2, 3, 0), pictureOf(api.Plain, 1, 1, 1, 0)} { // the kind is asked ahead of form and space
			got, e := picture.Two(kind, p, q)
			checkNone(t, "Two", got, e, api.ErrPictureKind)
		}
	}
}

func TestP8_7Unlike(t *testing.T) {
	all := rightPictures()
	for i, p := range all {
		for j, q := range all {
			kind := kinds()[(i+j)%5]
			sameForm := len(p.Planes) == len(q.Planes) && p.Planes[0].W == q.Planes[0].W && p.Planes[0].H == q.Planes[0].H
			got, e := picture.Two(kind, p, q)
			switch {
			case !sameForm: // ahead of the spaces
				checkNone(t, "Two", got, e, api.ErrPictureForm)
			case p.Space != q.Space:
				checkNone(t, "Two", got, e, api.ErrPictureSpace)
			default:
				checkPicture(t, "Two", got, e, twoTold(kind, p, q))
			}
		}
	}
	for _, z := range [][2]int{{3, 2}, {2, 2}, {2, 4}, {1, 3}, {3, 3}, {6, 1}, {1, 6}} {
		got, e := picture.Two(api.Add, pictureOf(api.YCC, 3, 2, 3, 0), pictureOf(api.YCC, 3, z[0], z[1], 0))
		checkNone(t, "Two", got, e, api.ErrPictureForm)
	}
}
