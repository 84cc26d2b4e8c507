package plane

import "halide/api"

// Crop tells a piece.
func Crop(p api.Plane, r api.Rect) (api.Plane, api.Errno) {
	if e := Check(p); e != api.OK {
		return api.Plane{}, e
	}
	if !isWithin(r, p.W, p.H) {
		return api.Plane{}, api.ErrPlaneRect
	}
	from := func(x, y int) uint32 { return sample(p, r.X0+x, r.Y0+y) }
	return layout{r.X1 - r.X0, r.Y1 - r.Y0, from}.plane(), api.OK
}

func isWithin(r api.Rect, w, h int) bool {
	return 0 <= r.X0 && r.X0 < r.X1 && r.X1 <= w && 0 <= r.Y0 && r.Y0 < r.Y1 && r.Y1 <= h
}

// Paste lays another plane over one.
func Paste(p, q api.Plane, x, y int) (api.Plane, api.Errno) {
	if e := Check(p); e != api.OK {
		return api.Plane{}, e
	}
	if e := Check(q); e != api.OK {
		return api.Plane{}, e
	}
	from := func(px, py int) uint32 {
		if lies(px, x, q.W) && lies(py, y, q.H) {
			return sample(q, px-x, py-y)
		}
		return sample(p, px, py)
	}
	return layout{p.W, p.H, from}.plane(), api.OK
}

// lies tells whether a place i of a plane is one of the n from start on. Start may be any number: nothing is added to it, as that could go round.
func lies(i, start, n int) bool { return start <= i && i-n < start }

// Flip turns a plane over.
func Flip(p api.Plane, across bool) (api.Plane, api.Errno) {
	if e := Check(p); e != api.OK {
		return api.Plane{}, e
	}
	from := func(x, y int) uint32 { return sample(p, x, p.H-1-y) }
	if across {
		from = func(x, y int) uint32 { return sample(p, p.W-1-x, y) }
	}
	return layout{p.W, p.H, from}.plane(), api.OK
}

// Transpose exchanges rows and columns.
func Transpose(p api.Plane) (api.Plane, api.Errno) {
	if e := Check(p); e != api.OK {
		return api.Plane{}, e
	}
	return layout{p.H, p.W, func(x, y int) uint32 { return sample(p, y, x) }}.plane(), api.OK
}

// Turn turns a plane by quarters.
func Turn(p api.Plane, quarters int) (api.Plane, api.Errno) {
	if e := Check(p); e != api.OK {
		return api.Plane{}, e
	}
	return turned(p, modulo(quarters, 4)).plane(), api.OK
}

// turned lays out p, turned clockwise by 0 to 3 quarters.
func turned(p api.Plane, quarters int) layout {
	switch quarters {
	case 1:
		return layout{p.H, p.W, func(x, y int) uint32 { return sample(p, y, p.H-1-x) }}
	case 2:
		return layout{p.W, p.H, func(x, y int) uint32 { return sample(p, p.W-1-x, p.H-1-y) }}
	case 3:
		return layout{p.H, p.W, func(x, y int) uint32 { return sample(p, p.W-1-y, x) }}
	}
	return layout{p.W, p.H, func(x, y int) uint32 { return sample(p, x, y) }}
}

// modulo tells i modulo n, from 0 to n - 1, also of an i below 0.
func modulo(i, n int) int {
	m := i % n
	if m < 0 {
		m += n
	}
	return m
}
