package picture

import (
	"halide/api"
	"halide/arith"
	"halide/bits"
)

// pairing: what is done with two samples.
type pairing func(a, b uint32) uint32

// pairingOf tells nil of a kind that is none.
func pairingOf(kind int) pairing {
	switch kind {
	case api.Add:
		return arith.Add
	case api.Sub:
		return arith.Sub
	case api.Mul:
		return arith.Mul
	case api.Least:
		return bits.Least
	case api.Greatest:
		return bits.Greatest
	}
	return nil
}

// Two puts two pictures together.
func Two(kind int, p, q api.Picture) (api.Picture, api.Errno) {
	if e := checkBoth(p, q); e != api.OK {
		return api.Picture{}, e
	}
	do := pairingOf(kind)
	switch {
	case do == nil:
		return api.Picture{}, api.ErrPictureKind
	case len(p.Planes) != len(q.Planes) || !isOneSize(p.Planes[0], q.Planes[0]):
		return api.Picture{}, api.ErrPictureForm
	case p.Space != q.Space:
		return api.Picture{}, api.ErrPictureSpace
	}
	told := copied(p)
	for i, l := range told.Planes {
		do.into(l.S, q.Planes[i].S)
	}
	return told, api.OK
}

// into leaves in a what it tells of a's samples and b's.
func (do pairing) into(a, b []uint32) {
	for i := range a {
		a[i] = do(a[i], b[i])
	}
}
