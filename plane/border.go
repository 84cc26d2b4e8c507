package plane

import "halide/api"

// border: for a side of n places, the place within that stands for i.
type border func(n, i int) int

// borderOf tells how a kind goes on beyond an edge; nil, if it is none.
func borderOf(kind int) border {
	switch kind {
	case api.Clamp:
		return clamped
	case api.Mirror:
		return mirrored
	case api.Wrap:
		return wrapped
	}
	return nil
}

func clamped(n, i int) int { return min(max(i, 0), n-1) }

func wrapped(n, i int) int { return modulo(i, n) }

func mirrored(n, i int) int {
	if n == 1 { // a period of 0 places
		return 0
	}
	period := 2 * (n - 1)
	m := modulo(i, period)
	if m < n {
		return m
	}
	return period - m
}

// Border tells a place within for one beyond.
func Border(kind, n, i int) (int, api.Errno) {
	beyond := borderOf(kind)
	switch {
	case beyond == nil:
		return 0, api.ErrPlaneBorder
	case !isSide(n):
		return 0, api.ErrPlaneSize
	}
	return beyond(n, i), api.OK
}

// Extend makes a plane greater on its sides.
func Extend(p api.Plane, kind, left, top, right, bottom int) (api.Plane, api.Errno) {
	if e := Check(p); e != api.OK {
		return api.Plane{}, e
	}
	beyond := borderOf(kind)
	switch {
	case beyond == nil:
		return api.Plane{}, api.ErrPlaneBorder
	case min(left, top, right, bottom) < 0:
		return api.Plane{}, api.ErrPlaneRect
	case max(left, top, right, bottom) > api.MaxSide: // ahead of the sums below, which could go round
		return api.Plane{}, api.ErrPlaneSize
	}
	w, h := left+p.W+right, top+p.H+bottom
	if !isSize(w, h) {
		return api.Plane{}, api.ErrPlaneSize
	}
	from := func(x, y int) uint32 { return sample(p, beyond(p.W, x-left), beyond(p.H, y-top)) }
	return layout{w, h, from}.plane(), api.OK
}
