package pyramid

import (
	"iter"

	"halide/api"
)

type place struct{ x, y int }

// places gives all places of a size, row by row, each with its number in a plane's list.
func places(w, h int) iter.Seq2[int, place] {
	return func(yield func(int, place) bool) {
		for y := range h {
			for x := range w {
				if !yield(y*w+x, place{x, y}) {
					return
				}
			}
		}
	}
}

func sized(w, h int) api.Plane { return api.Plane{W: w, H: h, S: make([]uint32, w*h)} }

// ladder makes room for a plane of a size, and for so many more behind it, each of half the size of the one ahead of it.
func ladder(w, h, levels int) []api.Plane {
	told := make([]api.Plane, levels+1)
	counts := make([]int, len(told))
	for k := range told {
		told[k].W, told[k].H, counts[k] = w, h, w*h
		w, h = half(w), half(h)
	}
	for k, room := range rooms(counts) {
		told[k].S = room
	}
	return told
}

// rooms cuts one store into lists of so many samples, with three indices: none has spare room, which would be the next one's samples.
func rooms(counts []int) [][]uint32 {
	all := 0
	for _, n := range counts {
		all += n
	}
	store := make([]uint32, all)
	told := make([][]uint32, len(counts))
	from := 0
	for k, n := range counts {
		told[k] = store[from : from+n : from+n]
		from += n
	}
	return told
}
