package blur

import (
	"math"

	"halide/bits"
)

const (
	signBit  = 1 << 31
	infinity = 0x7F800000
	tooGreat = 0x1p128 - 0x1p103 // of this size on a number is an infinity: half-way from the greatest sample to 2^128
)

// Each operation of the float64s stands in a conversion: its answer is rounded before anything else is done with it.

func number(s uint32) float64 { return float64(math.Float32frombits(s)) }

// sample tells a binary64 as a sample. What is too great for one is told ahead of the conversion: Go leaves open what that makes of it.
func sample(f float64) uint32 {
	switch {
	case f >= tooGreat:
		return infinity
	case f <= -tooGreat:
		return infinity | signBit
	}
	return bits.Made(math.Float32bits(float32(f)))
}

// balance: weights, and what they are together.
type balance struct {
	weights []float64
	sum     float64
}

func balanceOf(weights []int) balance {
	b := balance{weights: make([]float64, len(weights))}
	sum := 0
	for i, n := range weights {
		b.weights[i] = float64(n)
		sum += n
	}
	b.sum = float64(sum)
	return b
}

// weigh begins with a product, not with 0: a sum of -0s would be +0 then.
func (b balance) weigh(window []float64) uint32 {
	sum := float64(b.weights[0] * window[0])
	for i, n := range window[1:] {
		product := float64(b.weights[1+i] * n)
		sum = float64(sum + product)
	}
	return sample(float64(sum / b.sum))
}

// slope: of three numbers, half of how far the last one is above the first one.
func slope(window []float64) uint32 {
	rise := float64(window[2] - window[0])
	return sample(float64(rise / 2))
}

// sharper tells s, taken so many times further from what it is when soft.
func sharper(s, soft uint32, times float64) uint32 {
	from := number(s)
	apart := float64(from - number(soft))
	added := float64(times * apart)
	return sample(float64(from + added))
}
