package pyramid

import (
	"math"

	"halide/api"
	"halide/bits"
	"halide/plane"
)

const (
	signBit  = 1 << 31
	infinity = 0x7F800000
	tooGreat = 0x1p128 - 0x1p103 // of this size on a number is an infinity: half-way from the greatest sample to 2^128
)

// Each operation of the float64s stands in a conversion: its answer is rounded before anything else is done with it.

func number(s uint32) float64 { return float64(math.Float32frombits(s)) }

// sample tells a binary64 as a sample. What is too great for one is told ahead of the conversion: Go leaves open what that makes of it.
func sample(f float64) uint32 {
	switch {
	case f >= tooGreat:
		return infinity
	case f <= -tooGreat:
		return infinity | signBit
	}
	return bits.Made(math.Float32bits(float32(f)))
}

// balance: weights, and what they are together.
type balance struct {
	weights []float64
	sum     float64
}

func balanceOf(weights ...int) balance {
	b := balance{weights: make([]float64, len(weights))}
	sum := 0
	for k, n := range weights {
		b.weights[k] = float64(n)
		sum += n
	}
	b.sum = float64(sum)
	return b
}

// mixture: which places of a line a sample is made of, in order, and by which weights.
type mixture struct {
	balance
	from []int
}

// mixtureOf weighs places side by side, from first on; those beyond an end of a line of n are brought to it.
func mixtureOf(b balance, first, n int) mixture {
	from := make([]int, len(b.weights))
	for k := range from {
		from[k], _ = plane.Border(api.Clamp, n, first+k) // a border and a length that are right
	}
	return mixture{b, from}
}

// of weighs the samples of a line, which stand so many steps from one another in l. It begins with a product, not with 0: a sum of -0s would be +0 then.
func (m mixture) of(l []uint32, step int) uint32 {
	sum := float64(m.weights[0] * number(l[m.from[0]*step]))
	for k, weight := range m.weights[1:] {
		product := float64(weight * number(l[m.from[k+1]*step]))
		sum = float64(sum + product)
	}
	return sample(float64(sum / m.sum))
}

// halved tells what each sample of half a line of n is made of.
func halved(n int) []mixture {
	five := balanceOf(1, 4, 6, 4, 1)
	told := make([]mixture, half(n))
	for i := range told {
		told[i] = mixtureOf(five, 2*i-2, n)
	}
	return told
}

// doubled tells what each sample of a line of that length is made of, of a line of n.
func doubled(n, length int) []mixture {
	three, two := balanceOf(1, 6, 1), balanceOf(1, 1)
	told := make([]mixture, length)
	for i := range told {
		if i%2 == 0 {
			told[i] = mixtureOf(three, i/2-1, n)
		} else {
			told[i] = mixtureOf(two, i/2, n)
		}
	}
	return told
}

// across makes each row anew.
func across(p api.Plane, row []mixture) api.Plane {
	told := sized(len(row), p.H)
	for i, at := range places(told.W, told.H) {
		told.S[i] = row[at.x].of(p.S[at.y*p.W:], 1)
	}
	return told
}

// down makes each column anew.
func down(p api.Plane, column []mixture) api.Plane {
	told := sized(p.W, len(column))
	for i, at := range places(told.W, told.H) {
		told.S[i] = column[at.y].of(p.S[at.x:], p.W)
	}
	return told
}
