package picture

import (
	"halide/api"
	"halide/plane"
)

// Crop tells a piece.
func Crop(p api.Picture, r api.Rect) (api.Picture, api.Errno) {
	if e := Check(p); e != api.OK {
		return api.Picture{}, e
	}
	told := api.Picture{Space: p.Space}
	for _, q := range p.Planes {
		piece, e := plane.Crop(q, r)
		if e != api.OK {
			return api.Picture{}, e
		}
		told.Planes = append(told.Planes, piece)
	}
	return told, api.OK
}

// Paste lays another picture over one.
func Paste(p, q api.Picture, x, y int) (api.Picture, api.Errno) {
	if e := checkBoth(p, q); e != api.OK {
		return api.Picture{}, e
	}
	switch {
	case len(p.Planes) != len(q.Planes):
		return api.Picture{}, api.ErrPictureForm
	case p.Space != q.Space:
		return api.Picture{}, api.ErrPictureSpace
	}
	told := api.Picture{Space: p.Space}
	for i, under := range p.Planes {
		laid, e := plane.Paste(under, q.Planes[i], x, y)
		if e != api.OK {
			return api.Picture{}, e
		}
		told.Planes = append(told.Planes, laid)
	}
	return told, api.OK
}
