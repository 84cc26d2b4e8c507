package plane

import (
	"slices"

	"halide/api"
)

// Equal tells whether two planes are the same to the bit.
func Equal(p, q api.Plane) bool { return isSameSize(p, q) && slices.Equal(p.S, q.S) }

func isSameSize(p, q api.Plane) bool { return p.W == q.W && p.H == q.H }

// Unlike tells where two planes are unlike.
func Unlike(p, q api.Plane) (api.Rect, bool) {
	if !isSameSize(p, q) || Check(p) != api.OK || Check(q) != api.OK || Equal(p, q) {
		return api.Rect{}, false
	}
	r := api.Rect{X0: p.W, Y0: p.H} // of no places: the first one that is unlike makes it one
	for y := range p.H {
		for x := range p.W {
			if sample(p, x, y) != sample(q, x, y) {
				r = withPlace(r, x, y)
			}
		}
	}
	return r, true
}

// withPlace tells the least rectangle that has r's places and (x, y).
func withPlace(r api.Rect, x, y int) api.Rect {
	return api.Rect{X0: min(r.X0, x), Y0: min(r.Y0, y), X1: max(r.X1, x+1), Y1: max(r.Y1, y+1)}
}
