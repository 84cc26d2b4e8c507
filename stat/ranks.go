package stat

import (
	"cmp"
	"slices"

	"halide/api"
	"halide/bits"
	"halide/plane"
)

const mostParts = 1 << 20 // of a share

// Rank tells the sample with so many ahead of it.
func Rank(p api.Plane, k int) (uint32, api.Errno) {
	if e := plane.Check(p); e != api.OK {
		return 0, e
	}
	if k < 0 || k >= len(p.S) {
		return 0, api.ErrStatShare
	}
	return ranked(p.S, k, byKey), api.OK
}

// ranked tells which of some samples stands at k, once they are sorted by a comparison.
func ranked(l []uint32, k int, compare func(a, b uint32) int) uint32 {
	sorted := slices.Clone(l)
	slices.SortFunc(sorted, compare)
	return sorted[k]
}

func byKey(a, b uint32) int { return cmp.Compare(bits.Key(a), bits.Key(b)) }

// Share tells the sample at a share of the way.
func Share(p api.Plane, num, den int) (uint32, api.Errno) {
	if e := plane.Check(p); e != api.OK {
		return 0, e
	}
	if den < 1 || den > mostParts || num < 0 || num > den {
		return 0, api.ErrStatShare
	}
	return Rank(p, (len(p.S)-1)*num/den)
}
