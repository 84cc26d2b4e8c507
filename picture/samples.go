package picture

import (
	"slices"

	"halide/api"
	"halide/arith"
	"halide/bits"
	"halide/curve"
)

// every: in place of a plane's number: all planes.
const every = -1

// change: what is done to each sample, and in which plane.
type change struct {
	n  int
	do func(s uint32) uint32
}

func (c change) of(p api.Picture) (api.Picture, api.Errno) {
	if e := Check(p); e != api.OK {
		return api.Picture{}, e
	}
	if c.n != every && !hasPlane(p, c.n) {
		return api.Picture{}, api.ErrPicturePlane
	}
	told := api.Picture{Space: p.Space}
	for i, q := range p.Planes {
		told.Planes = append(told.Planes, api.Plane{W: q.W, H: q.H, S: c.samples(i, q.S)})
	}
	return told, api.OK
}

func (c change) samples(i int, s []uint32) []uint32 {
	if c.n != every && c.n != i {
		return slices.Clone(s)
	}
	return curve.Map(c.do, s)
}

// Map does a function to samples.
func Map(p api.Picture, n int, f func(s uint32) uint32) (api.Picture, api.Errno) {
	return change{n, f}.of(p)
}

// affine: a factor, and what is added.
type affine struct{ factor, term uint32 }

func (a affine) at(s uint32) uint32 { return arith.Fma(s, a.factor, a.term) }

// Affine multiplies samples, and adds.
func Affine(p api.Picture, n int, a, b uint32) (api.Picture, api.Errno) {
	return change{n, affine{a, b}.at}.of(p)
}

// bounds: the samples between which one is kept.
type bounds struct{ lo, hi uint32 }

func (b bounds) at(s uint32) uint32 { return bits.Between(s, b.lo, b.hi) }

// Between keeps samples between two.
func Between(p api.Picture, n int, lo, hi uint32) (api.Picture, api.Errno) {
	return change{n, bounds{lo, hi}.at}.of(p)
}
