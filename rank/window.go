package rank

import (
	"slices"

	"halide/api"
	"halide/plane"
)

// window: the samples of one, row by row, in room for the greatest one.
type window [api.MaxWindow * api.MaxWindow]uint32

// ranked tells which of the first n stands at k, once they are sorted by a comparison. It sorts a copy: a window is a value.
func (w window) ranked(n, k int, compare func(a, b uint32) int) uint32 {
	l := w[:n]
	slices.SortFunc(l, compare)
	return l[k]
}

// view: a plane, and which of its columns and rows stand for those that the windows of a piece reach, from the first one on.
type view struct {
	p             api.Plane
	columns, rows []int
}

// viewOf asks for each column and each row once, as many windows have the same ones.
func viewOf(p api.Plane, border, w, h int, r api.Rect) view {
	return view{
		p:       p,
		columns: within(border, p.W, r.X0-w/2, r.X1-r.X0+w-1),
		rows:    within(border, p.H, r.Y0-h/2, r.Y1-r.Y0+h-1),
	}
}

// within tells which places of a side stand for the n from first on.
func within(border, side, first, n int) []int {
	l := make([]int, n)
	for i := range n {
		l[i], _ = plane.Border(border, side, first+i) // a border and a side that are right
	}
	return l
}

// window tells that of the piece's place (x, y).
func (v view) window(w, h, x, y int) window {
	var told window
	for j := range h {
		row := v.p.S[v.rows[y+j]*v.p.W:]
		for i := range w {
			told[j*w+i] = row[v.columns[x+i]]
		}
	}
	return told
}

// piece makes the places of r alone, of arguments that are right.
func piece(p api.Plane, border, w, h, k int, r api.Rect) api.Plane {
	v := viewOf(p, border, w, h, r)
	told := api.Plane{W: r.X1 - r.X0, H: r.Y1 - r.Y0}
	told.S = make([]uint32, told.W*told.H)
	for y := range told.H {
		for x := range told.W {
			told.S[y*told.W+x] = v.window(w, h, x, y).ranked(w*h, k, byKey())
		}
	}
	return told
}
