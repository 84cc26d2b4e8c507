package space

import (
	"math"

	"halide/api"
	"halide/bits"
)

const (
	signBit  = 1 << 31
	infinity = 0x7F800000
	octave   = 1 << 23      // how many samples there are from a power of two up to the next one
	oneBits  = 127 * octave // of the number 1
	tooFar   = 128          // from it on Exp would come to an infinity's bits
	tooLow   = -127         // below it Exp would come to less than no bits
)

// logRGB: a scale on which the samples from one power of two to the next stand evenly.
type logRGB struct{}

func (logRGB) fromRGB(c three) three { return three{Log(c[0]), Log(c[1]), Log(c[2])} }

func (logRGB) toRGB(c three) three { return three{Exp(c[0]), Exp(c[1]), Exp(c[2])} }

// Log tells a sample on a scale of powers of two.
func Log(x uint32) uint32 {
	v := number(x)
	switch {
	case bits.IsNaN(x) || v < 0:
		return api.Made
	case v == 0:
		return infinity | signBit
	case x == infinity:
		return infinity
	}
	return sample(float64(int(x)-oneBits) / octave)
}

// Exp goes back.
func Exp(y uint32) uint32 {
	v := number(y)
	switch {
	case bits.IsNaN(y):
		return api.Made
	case v >= tooFar:
		return infinity
	case v < tooLow:
		return 0
	}
	return uint32(int(math.RoundToEven(float64(v*octave))) + oneBits)
}
