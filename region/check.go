package region

import "halide/api"

// check tells whether a list is right.
func check(l []api.Rect) api.Errno {
	if len(l) > api.MaxRects {
		return api.ErrRegionMany
	}
	for _, r := range l {
		if hasPlace(r) && !isNear(r) {
			return api.ErrRegionFar
		}
	}
	return api.OK
}

func checkBoth(a, b []api.Rect) api.Errno {
	if e := check(a); e != api.OK {
		return e
	}
	return check(b)
}

// isNear asks of a rectangle that has a place, so that no number of it but these two can be too small, or too great.
func isNear(r api.Rect) bool {
	return -api.MaxFar <= min(r.X0, r.Y0) && max(r.X1, r.Y1) <= api.MaxFar
}
