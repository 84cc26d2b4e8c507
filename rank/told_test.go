package rank_test

import (
	"sort"

	"halide/api"
)

// What the chapter says of each call, word by word, of arguments that are right.

// keyTold: DOC.md's word 'key'.
func keyTold(s uint32) int {
	if s < 1<<31 {
		return int(s) + 1<<31
	}
	return 1<<32 - 1 - int(s)
}

// ofKey: the sample of that key.
func ofKey(k int) uint32 {
	if k >= 1<<31 {
		return uint32(k - 1<<31)
	}
	return uint32(1<<32 - 1 - k)
}

func sortedTold(l []uint32) []uint32 {
	var keys []int
	for _, s := range l {
		keys = append(keys, keyTold(s))
	}
	sort.Ints(keys)
	var told []uint32
	for _, k := range keys {
		told = append(told, ofKey(k))
	}
	return told
}

// borderTold goes step by step to the place within.
func borderTold(border, n, i int) int {
	for i < 0 || i >= n {
		switch {
		case border == api.Clamp:
			i = min(max(i, 0), n-1)
		case border == api.Wrap && i < 0:
			i += n
		case border == api.Wrap:
			i -= n
		case n == 1:
			i = 0
		case i < 0:
			i = -i
		default:
			i = 2*(n-1) - i
		}
	}
	return i
}

// windowTold: its samples, whatever their order.
func windowTold(p api.Plane, border, w, h, x, y int) []uint32 {
	var l []uint32
	for j := 0; j < h; j++ {
		for i := 0; i < w; i++ {
			column, row := borderTold(border, p.W, x-w/2+i), borderTold(border, p.H, y-h/2+j)
			l = append(l, p.S[row*p.W+column])
		}
	}
	return l
}

// ranksTold: of each k a plane; each window is sorted once.
func ranksTold(p api.Plane, border, w, h int) []api.Plane {
	told := make([]api.Plane, w*h)
	for k := range told {
		told[k] = planeOf(p.W, p.H)
	}
	for y := 0; y < p.H; y++ {
		for x := 0; x < p.W; x++ {
			for k, s := range sortedTold(windowTold(p, border, w, h, x, y)) {
				told[k].S = append(told[k].S, s)
			}
		}
	}
	return told
}

// cropTold: the places of r.
func cropTold(p api.Plane, r api.Rect) api.Plane {
	told := planeOf(r.X1-r.X0, r.Y1-r.Y0)
	for y := r.Y0; y < r.Y1; y++ {
		told.S = append(told.S, p.S[y*p.W+r.X0:y*p.W+r.X1]...)
	}
	return told
}
