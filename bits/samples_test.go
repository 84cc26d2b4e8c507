package bits_test

import "math"

// Samples that the chapter names: the ends of each class, of both signs.
const (
	plusZero      = 0x00000000
	minusZero     = 0x80000000
	leastSmall    = 0x00000001
	greatestSmall = 0x007FFFFF
	leastNormal   = 0x00800000
	one           = 0x3F800000
	greatest      = 0x7F7FFFFF
	infinity      = 0x7F800000
	leastNaN      = 0x7F800001
	quietNaN      = 0x7FC00000
	lastNaN       = 0x7FFFFFFF
	sign          = 0x80000000
)

// inOrder: edges of every class, from the first key to the last one.
func inOrder() []uint32 {
	above := []uint32{plusZero, leastSmall, 2, 0x00400000, greatestSmall, leastNormal, leastNormal + 1, 0x00FFFFFF, 0x01000000, 0x3F7FFFFF, one, one + 1, 0x4B7FFFFF, 0x4B800000, greatest - 1, greatest, infinity, leastNaN, 0x7FBFFFFF, quietNaN, quietNaN + 1, lastNaN - 1, lastNaN}
	var all []uint32
	for i := len(above) - 1; i >= 0; i-- {
		all = append(all, above[i]|sign)
	}
	return append(all, above...)
}

// sweep: the edges, and samples from end to end of all 2^32 (the step is odd and shares nothing with the fields' widths, so that all fractions' ends come up).
func sweep() []uint32 {
	all := inOrder()
	const step = 10007
	for s := uint64(0); s < 1<<32; s += step {
		all = append(all, uint32(s))
	}
	return all
}

// value: the library's reading of a sample that is no NaN; exact in binary64.
func value(s uint32) float64 { return float64(math.Float32frombits(s)) }

func notANumber(s uint32) bool { return s&^uint32(sign) > infinity }
