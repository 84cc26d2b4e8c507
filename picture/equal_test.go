package picture_test

import (
	"testing"

	"halide/api"
	"halide/picture"
)

func checkEqual(t *testing.T, what string, p, q api.Picture, want bool) {
	t.Helper()
	if picture.Equal(p, q) != want || picture.Equal(q, p) != want {
		t.Fatalf("%s: Equal isn't %v", what, want)
	}
}

func TestP8_8Equal(t *testing.T) {
	for _, p := range append(rightPictures(), pictureOf(api.RGB, 4, 256, 256, 0)) {
		checkEqual(t, "itself", p, p, true)
		checkEqual(t, "a copy", p, clone(p), true)
		for _, space := range append(spaces(), wrongSpaces()...) {
			checkEqual(t, "another space", p, inSpace(p, space), space == p.Space)
		}
		checkEqual(t, "a plane less", p, api.Picture{Space: p.Space, Planes: p.Planes[:len(p.Planes)-1]}, false)
		checkEqual(t, "a plane more", p, api.Picture{Space: p.Space, Planes: append(clone(p).Planes, p.Planes[0])}, false)
	}
}

// One bit of one sample, wherever it stands.
func TestP8_8EachBit(t *testing.T) {
	p := pictureOf(api.YCC, 4, 9, 8, 2)
	for n := range p.Planes {
		for i := range p.Planes[n].S {
			q := clone(p)
			q.Planes[n].S[i] ^= 1 << ((i*5 + n) % 32)
			checkEqual(t, "a bit", p, q, false)
		}
	}
	checkEqual(t, "noughts", place(api.Plain, plusZero), place(api.Plain, minusZero), false)
	for _, s := range nans() {
		checkEqual(t, "a NaN", place(api.Plain, one, s), place(api.Plain, one, s), true)
		checkEqual(t, "two NaNs", place(api.Plain, one, s), place(api.Plain, one, s^1), false)
	}
}

// The same samples, in planes of other sizes or in another order.
func TestP8_8SizesAndOrder(t *testing.T) {
	p := pictureOf(api.Plain, 2, 2, 3, 0)
	q := clone(p)
	q.Planes[0].W, q.Planes[0].H = 3, 2
	checkEqual(t, "the first turned over", p, q, false)
	q = clone(p)
	q.Planes[1].W, q.Planes[1].H = 6, 1
	checkEqual(t, "the second one in one row", p, q, false)
	q = clone(p)
	q.Planes[0], q.Planes[1] = q.Planes[1], q.Planes[0]
	checkEqual(t, "exchanged", p, q, false)
}

func TestP8_8OfRefusedOnes(t *testing.T) {
	l := refusedPictures()
	for i, r := range l {
		checkEqual(t, r.name, r.p, r.p, true)
		checkEqual(t, r.name, r.p, clone(r.p), true)
		for j := range l[:i] {
			checkEqual(t, r.name+" and "+l[j].name, r.p, l[j].p, isSame(r.p, l[j].p))
		}
		for _, q := range []api.Picture{pictureOf(api.Plain, 1, 2, 3, 0), pictureOf(api.RGB, 3, 2, 3, 0)} {
			checkEqual(t, r.name+" and a right one", r.p, q, false)
		}
	}
	checkEqual(t, "nil and empty", api.Picture{}, api.Picture{Planes: []api.Plane{}}, true)
	checkEqual(t, "nil and empty", api.Picture{Space: 7, Planes: planesOf(api.Plane{W: -1})}, api.Picture{Space: 7, Planes: planesOf(api.Plane{W: -1, S: []uint32{}})}, true)
	checkEqual(t, "sizes of nothing", api.Picture{Planes: planesOf(api.Plane{W: -1})}, api.Picture{Planes: planesOf(api.Plane{H: -1})}, false)
	checkEqual(t, "nothing and a plane of nothing", api.Picture{}, api.Picture{Planes: planesOf(api.Plane{})}, false)
}
