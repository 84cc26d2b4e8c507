package curve_test

import (
	"math"
	"math/big"

	"halide/api"
)

// What the chapter says, word by word, with numbers of math/big.

// binary64: a number whose reckoning is rounded as binary64 is: nothing here comes near the ends of its exponents.
func binary64() *big.Float { return new(big.Float).SetPrec(53).SetMode(big.ToNearestEven) }

// valueOf: read from the bits of one that is no NaN.
func valueOf(s uint32) *big.Float {
	n, e := int64(s&(1<<23-1)), int(s>>23&255)
	x := binary64()
	switch {
	case e == 255:
		return x.SetInf(s&sign != 0)
	case e > 0:
		n += 1 << 23
		e--
	}
	x.SetMantExp(binary64().SetInt64(n), e-149)
	if s&sign != 0 {
		x.Neg(x)
	}
	return x
}

func isBelow(a, b uint32) bool { return valueOf(a).Cmp(valueOf(b)) < 0 }

func asSample(x *big.Float) uint32 {
	f, _ := x.Float32()
	return math.Float32bits(f)
}

// toldAt: P4.2.
func toldAt(l []api.Knot, x uint32) uint32 {
	if isNaN(x) {
		return made
	}
	v, n := valueOf(x), len(l)-1
	if v.Cmp(valueOf(l[0].X)) <= 0 {
		return l[0].Y
	}
	if v.Cmp(valueOf(l[n].X)) >= 0 {
		return l[n].Y
	}
	for i := range l {
		if v.Cmp(valueOf(l[i].X)) == 0 {
			return l[i].Y
		}
	}
	i := 0
	for v.Cmp(valueOf(l[i+1].X)) > 0 {
		i++
	}
	return toldBetween(l[i], l[i+1], v)
}

func toldBetween(lo, hi api.Knot, x *big.Float) uint32 {
	x0, y0, x1, y1 := valueOf(lo.X), valueOf(lo.Y), valueOf(hi.X), valueOf(hi.Y)
	if y0.Cmp(y1) == 0 {
		return lo.Y
	}
	a := binary64().Sub(x, x0)
	s := binary64().Quo(binary64().Sub(y1, y0), binary64().Sub(x1, x0))
	v := binary64().Add(y0, binary64().Mul(a, s))
	answer := asSample(v)
	if isBelow(answer, lo.Y) {
		return lo.Y
	}
	if isBelow(hi.Y, answer) {
		return hi.Y
	}
	return answer
}

// toldLeast: P4.3, and, with a chain's At, P4.6. Where there are few places, each is asked; else it counts on At rising (P4.7 has tests of its own).
func toldLeast(first, last, y uint32, at func(uint32) uint32) (api.Proof, api.Errno) {
	if isNaN(y) || isBelow(at(last), y) {
		return api.Proof{}, api.ErrCurveNone
	}
	lo, hi := keyOf(first), keyOf(last)
	for hi-lo > 50 {
		if middle := lo + (hi-lo)/2; isBelow(at(ofKey(middle)), y) {
			lo = middle + 1
		} else {
			hi = middle
		}
	}
	for isBelow(at(ofKey(lo)), y) {
		lo++
	}
	if ofKey(lo) == first {
		return api.Proof{X: first}, api.OK
	}
	return api.Proof{X: ofKey(lo), Below: ofKey(lo - 1), Has: true}, api.OK
}
