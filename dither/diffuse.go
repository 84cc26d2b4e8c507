package dither

import (
	"iter"
	"slices"

	"halide/api"
)

// walk: a diffusion under way: of each place its units and what was handed on to it so far; and what has fallen.
type walk struct {
	w, h, n int
	held    []int
	fallen  int
}

// walkOf begins one, of arguments that are right.
func walkOf(p api.Plane, n int) *walk {
	held := make([]int, len(p.S))
	for i, s := range p.S {
		held[i] = Units(s)
	}
	return &walk{w: p.W, h: p.H, n: n, held: held}
}

// each goes to all places that are left, and tells v, k and e of each.
func (d *walk) each(yield func(int, [3]int) bool) {
	for y := range d.h {
		for x := range d.w {
			if !yield(y*d.w+x, d.visit(x, y)) {
				return
			}
		}
	}
}

func (d *walk) visit(x, y int) [3]int {
	v := d.held[y*d.w+x]
	k := nearest(d.n, v)
	e := v - unit(d.n, k)
	d.share(x, y, e)
	return [3]int{v, k, e}
}

// share hands e on, all of it: what rounding down leaves goes with the last part.
func (d *walk) share(x, y, e int) {
	right, left, below := 7*e>>4, 3*e>>4, 5*e>>4 // shifts round down, also below 0
	d.hand(x+1, y, right)
	d.hand(x-1, y+1, left)
	d.hand(x, y+1, below)
	d.hand(x+1, y+1, e-right-left-below)
}

func (d *walk) hand(x, y, part int) {
	if x < 0 || x >= d.w || y >= d.h {
		d.fallen += part
		return
	}
	d.held[y*d.w+x] += part
}

// Diffuse dithers by handing on what is left; and tells what fell.
func Diffuse(p api.Plane, n int) (api.Plane, int, api.Errno) {
	if e := refusal(p, n, leastSide); e != api.OK { // without a table: any side that there is
		return api.Plane{}, 0, e
	}
	told := api.Plane{W: p.W, H: p.H, S: make([]uint32, len(p.S))}
	d := walkOf(p, n)
	for i, t := range d.each {
		told.S[i] = level(n, t[1])
	}
	return told, d.fallen, api.OK
}

// Trail gives each place's number, level and rest.
func Trail(p api.Plane, n int) iter.Seq2[int, [3]int] {
	if refusal(p, n, leastSide) != api.OK {
		return func(func(int, [3]int) bool) {}
	}
	p.S = slices.Clone(p.S) // the caller's list may change ahead of the going through
	return func(yield func(int, [3]int) bool) {
		walkOf(p, n).each(yield) // one of its own each time it is gone through
	}
}
