package dither

import "halide/api"

const (
	leastSide = 1
	mostSide  = 16
)

// thresholds: of a table of some side, in room for the greatest one: rows from the top.
type thresholds [mostSide][mostSide]int

// Table tells a table of thresholds.
func Table(side int) ([][]int, api.Errno) {
	if !isSide(side) {
		return nil, api.ErrDitherSide
	}
	t := thresholdsOf(side)
	told := make([][]int, side)
	for y := range side {
		told[y] = make([]int, side) // each row by itself: no two lists of an answer share memory
		copy(told[y], t[y][:])
	}
	return told, api.OK
}

// isSide tells whether it is a power of two that a table has.
func isSide(side int) bool {
	return leastSide <= side && side <= mostSide && side&(side-1) == 0
}

// thresholdsOf tells the table of a side that there is.
func thresholdsOf(side int) thresholds {
	var t thresholds // of side 1 the number 0
	for s := leastSide; s < side; s *= 2 {
		t = t.doubled(s)
	}
	return t
}

// doubled tells the table of twice the side s. It is made of a copy: a table is a value.
func (t thresholds) doubled(s int) thresholds {
	quarters := [2][2]int{{0, 2}, {3, 1}}
	var told thresholds
	for y := range 2 * s {
		for x := range 2 * s {
			told[y][x] = 4*t[y%s][x%s] + quarters[y/s][x/s]
		}
	}
	return told
}

// Ordered dithers by a table.
func Ordered(p api.Plane, n, side, x, y int) (api.Plane, api.Errno) {
	if e := refusal(p, n, side); e != api.OK {
		return api.Plane{}, e
	}
	t := thresholdsOf(side)
	told := api.Plane{W: p.W, H: p.H, S: make([]uint32, len(p.S))}
	for j := range p.H {
		row := t[modulo(y+j, side)]
		for i := range p.W {
			at := j*p.W + i
			told.S[at] = level(n, stepped(n, side, row[modulo(x+i, side)], Units(p.S[at])))
		}
	}
	return told, api.OK
}

// modulo tells i modulo a side, from 0 on, also of an i below 0. A sum that has gone round is right too: a side divides 2^64.
func modulo(i, side int) int { return i & (side - 1) }

// stepped tells the level of u units where the table has b: the one below, or, above the threshold, the next one.
func stepped(n, side, b, u int) int {
	k := lower(n, u)
	if k == n-1 {
		return k
	}
	gap := unit(n, k+1) - unit(n, k)
	if 2*side*side*(u-unit(n, k)) > (2*b+1)*gap {
		return k + 1
	}
	return k
}
