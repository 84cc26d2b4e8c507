package picture

import (
	"math"

	"halide/api"
	"halide/arith"
	"halide/space"
)

// three: a place's first samples, in the order of their planes.
type three [3]uint32

// mixing: what is done to the first three samples of each place, and the space that they are in then.
type mixing struct {
	space int
	do    func(c three) three
}

// of wants a picture of three planes at least.
func (m mixing) of(p api.Picture) api.Picture {
	told := copied(p)
	told.Space = m.space
	a, b, c := told.Planes[0].S, told.Planes[1].S, told.Planes[2].S
	for i := range a {
		mixed := m.do(three{a[i], b[i], c[i]})
		a[i], b[i], c[i] = mixed[0], mixed[1], mixed[2]
	}
	return told
}

// way: from one space to another one. Both are known to be such that space.Convert takes them.
type way struct{ from, to int }

func (w way) at(c three) three {
	x, y, z, _ := space.Convert(w.from, w.to, c[0], c[1], c[2])
	return three{x, y, z}
}

// Convert brings a picture to another space.
func Convert(p api.Picture, to int) (api.Picture, api.Errno) {
	if e := Check(p); e != api.OK {
		return api.Picture{}, e
	}
	if _, _, _, e := space.Convert(p.Space, to, 0, 0, 0); e != api.OK {
		return api.Picture{}, api.ErrPictureSpace
	}
	if p.Space == to { // a plain picture may have less than three planes
		return copied(p), api.OK
	}
	return mixing{to, way{p.Space, to}.at}.of(p), api.OK
}

// matrix: three rows of factors.
type matrix [9]uint32

func (m matrix) at(c three) three { return three{m.row(0, c), m.row(1, c), m.row(2, c)} }

// row adds from the left. A product of two samples has room in a float64; each sum stands in a conversion: it is rounded before anything else is added.
func (m matrix) row(i int, c three) uint32 {
	sum := product(m[3*i], c[0])
	sum = float64(sum + product(m[3*i+1], c[1]))
	sum = float64(sum + product(m[3*i+2], c[2]))
	return arith.Narrow(math.Float64bits(sum))
}

func product(a, b uint32) float64 { return float64(number(a) * number(b)) }

func number(s uint32) float64 { return math.Float64frombits(arith.Wide(s)) }

// Matrix mixes the first three planes.
func Matrix(p api.Picture, m [9]uint32) (api.Picture, api.Errno) {
	if e := Check(p); e != api.OK {
		return api.Picture{}, e
	}
	if len(p.Planes) < 3 {
		return api.Picture{}, api.ErrPictureForm
	}
	return mixing{p.Space, matrix(m).at}.of(p), api.OK
}
