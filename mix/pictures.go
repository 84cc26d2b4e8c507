package mix

import (
	"halide/api"
	"halide/picture"
)

// alpha: the number of the alpha plane.
const alpha = 3

// checkBoth tells the first one's error ahead of the second one's.
func checkBoth(p, q api.Picture) api.Errno {
	if e := picture.Check(p); e != api.OK {
		return e
	}
	return picture.Check(q)
}

func hasAlpha(p api.Picture) bool { return len(p.Planes) > alpha }

// unlike tells why two pictures, which may be, don't fit one another: all planes of each have the size of its first one.
func unlike(p, q api.Picture) api.Errno {
	a, b := p.Planes[0], q.Planes[0]
	switch {
	case p.Space != q.Space:
		return api.ErrPictureSpace
	case len(p.Planes) != len(q.Planes) || a.W != b.W || a.H != b.H:
		return api.ErrPictureForm
	}
	return api.OK
}

// drawn tells a picture of the space and the form of p, which may be: at tells each sample, by the number of its plane and its own in that plane's list.
func drawn(p api.Picture, at func(n, i int) uint32) api.Picture {
	size := p.Planes[0]
	told, _ := picture.New(p.Space, len(p.Planes), size.W, size.H, 0)
	for n := range len(told.Planes) {
		s := told.Planes[n].S
		for i := range len(s) {
			s[i] = at(n, i)
		}
	}
	return told
}
