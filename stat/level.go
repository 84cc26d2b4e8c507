package stat

import (
	"math"

	"halide/api"
	"halide/bits"
	"halide/plane"
)

// Level tells a plane whose classes are spread evenly.
func Level(p api.Plane, bits int) (api.Plane, api.Errno) {
	if e := plane.Check(p); e != api.OK {
		return api.Plane{}, e
	}
	if !isBits(bits) {
		return api.Plane{}, api.ErrStatBits
	}
	return levelled(p, bits), api.OK
}

// levelled does so of arguments that are right. (In Level itself the number of bits hides package bits.)
func levelled(p api.Plane, width int) api.Plane {
	classes := emptyTally(width)
	numbers := withoutNaNs(p.S)
	classes.add(numbers)
	upTo := classes.upTo()
	told := api.Plane{W: p.W, H: p.H, S: make([]uint32, len(p.S))}
	for i, s := range p.S {
		if bits.IsNaN(s) {
			told.S[i] = s
		} else {
			told.S[i] = share(upTo[classes.class(s)], len(numbers))
		}
	}
	return told
}

// share tells m / n as a sample: it is from 0 to 1, so nothing is too great for one.
func share(m, n int) uint32 {
	return math.Float32bits(float32(float64(m) / float64(n)))
}
