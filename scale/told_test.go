package scale_test

import (
	"math"

	"halide/api"
	"halide/kernel"
	"halide/plane"
	"halide/sums"
)

// What the chapter says of each call, word by word, of arguments that are right.

func rowTold(l []uint32, kind, to int) []uint32 { return rowByTaps(l, everyTaps(kind, len(l), to)) }

func everyTaps(kind, from, to int) [][]api.Tap {
	var all [][]api.Tap
	for i := 0; i < to; i++ {
		all = append(all, must(kernel.Taps(kind, from, to, i)))
	}
	return all
}

func rowByTaps(l []uint32, taps [][]api.Tap) []uint32 {
	var told []uint32
	for i := range taps {
		var weights []int
		var samples []uint32
		for _, tap := range taps[i] {
			weights, samples = append(weights, tap.N), append(samples, l[tap.At])
		}
		told = append(told, must(sums.Dot(weights, samples)))
	}
	return told
}

// rowReckoned: the same in binary64 without layer 3, each product and each sum rounded by itself.
func rowReckoned(l []uint32, kind, to int) []uint32 {
	var told []uint32
	for i := 0; i < to; i++ {
		sum := 0.0
		for j, tap := range must(kernel.Taps(kind, len(l), to, i)) {
			product := float64(float64(tap.N) * value(l[tap.At]))
			if j == 0 {
				sum = product
			} else {
				sum = float64(sum + product)
			}
		}
		told = append(told, math.Float32bits(float32(sum/65536)))
	}
	return told
}

func planeTold(p api.Plane, kind, w, h int) api.Plane {
	across, down := everyTaps(kind, p.W, w), everyTaps(kind, p.H, h)
	var rows [][]uint32
	for y := 0; y < p.H; y++ {
		rows = append(rows, rowByTaps(p.S[y*p.W:(y+1)*p.W], across))
	}
	told := api.Plane{W: w, H: h, S: make([]uint32, w*h)}
	for x := 0; x < w; x++ {
		var column []uint32
		for y := range rows {
			column = append(column, rows[y][x])
		}
		for y, s := range rowByTaps(column, down) {
			told.S[y*w+x] = s
		}
	}
	return told
}

func partTold(p api.Plane, kind, w, h int, r api.Rect) api.Plane {
	return must(plane.Crop(planeTold(p, kind, w, h), r))
}

func needTold(kind, from, to, lo, hi int) (int, int) {
	least, greatest := math.MaxInt, math.MinInt
	for i := lo; i < hi; i++ {
		for _, tap := range must(kernel.Taps(kind, from, to, i)) {
			least, greatest = min(least, tap.At), max(greatest, tap.At)
		}
	}
	return least, greatest + 1
}
