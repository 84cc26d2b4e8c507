package space

import "halide/bits"

// lifted: a mean and differences of keys. Keys go round 2^32 as uint32s do, so that each step can be taken back.
type lifted struct{}

func (lifted) fromRGB(c three) three {
	r, g, b := bits.Key(c[0]), bits.Key(c[1]), bits.Key(c[2])
	co := r - b
	t := b + halved(co)
	cg := g - t
	return three{bits.FromKey(t + halved(cg)), fromDifference(cg), fromDifference(co)}
}

func (lifted) toRGB(c three) three {
	y, cg, co := bits.Key(c[0]), difference(c[1]), difference(c[2])
	t := y - halved(cg)
	b := t - halved(co)
	return three{bits.FromKey(b + co), bits.FromKey(cg + t), bits.FromKey(b)}
}

// halved rounds down: a shift of a number with a sign does.
func halved(d uint32) uint32 { return uint32(int32(d) >> 1) }

// nought: the key of +0, so that it stands for no difference.
const nought = 1 << 31

func fromDifference(d uint32) uint32 { return bits.FromKey(d + nought) }

func difference(s uint32) uint32 { return bits.Key(s) - nought }

// Lift tells a mean and differences of keys.
func Lift(r, g, b uint32) (uint32, uint32, uint32) {
	c := lifted{}.fromRGB(three{r, g, b})
	return c[0], c[1], c[2]
}

// Drop goes back, to the bit.
func Drop(y, cg, co uint32) (uint32, uint32, uint32) {
	c := lifted{}.toRGB(three{y, cg, co})
	return c[0], c[1], c[2]
}
