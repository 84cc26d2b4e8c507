package mix_test

import (
	"math"
	"math/big"

	"halide/api"
)

// What the chapter says of each call, word by word, of arguments that are right; numbers of 53 bits by math/big, whose exponents have no end: none here comes near binary64's.

// wideNumber: a number of binary64; nil: a NaN.
type wideNumber = *big.Float

func ofSample(s uint32) wideNumber {
	if isNaN(s) {
		return nil
	}
	return new(big.Float).SetPrec(53).SetFloat64(value(s))
}

// reckoned: one operation, rounded by itself.
func reckoned(operation func(z, x, y *big.Float) *big.Float, x, y wideNumber) (told wideNumber) {
	if x == nil || y == nil {
		return nil
	}
	defer func() {
		switch r := recover().(type) {
		case nil:
		case big.ErrNaN:
			told = nil
		default:
			panic(r)
		}
	}()
	return operation(new(big.Float).SetPrec(53).SetMode(big.ToNearestEven), x, y)
}

func plus(x, y wideNumber) wideNumber { return reckoned((*big.Float).Add, x, y) }

func times(x, y wideNumber) wideNumber { return reckoned((*big.Float).Mul, x, y) }

func lessThanOne(x wideNumber) wideNumber {
	return reckoned((*big.Float).Sub, ofSample(one), x)
}

func by(x, y wideNumber) wideNumber { return reckoned((*big.Float).Quo, x, y) }

func asSample(x wideNumber) uint32 {
	if x == nil {
		return made
	}
	f, _ := x.Float32()
	return math.Float32bits(f)
}

// oneTold: P15.1's table.
func oneTold(kind int, bits, alphaBits, under, underAlpha uint32) uint32 {
	s, sa, d, da := ofSample(bits), ofSample(alphaBits), ofSample(under), ofSample(underAlpha)
	switch kind {
	case 1:
		return asSample(plus(s, times(d, lessThanOne(sa))))
	case 2:
		return asSample(times(s, da))
	case 3:
		return asSample(times(s, lessThanOne(da)))
	case 4:
		return asSample(plus(times(s, da), times(d, lessThanOne(sa))))
	case 5:
		return asSample(plus(times(s, lessThanOne(da)), times(d, lessThanOne(sa))))
	}
	return asSample(plus(s, d))
}

func stepTold(a, b, t uint32) uint32 {
	return asSample(plus(times(ofSample(a), lessThanOne(ofSample(t))), times(ofSample(b), ofSample(t))))
}

// productTold, quotientTold: rounded once: of two samples a rounding to 53 bits ahead of that doesn't show.
func productTold(a, b uint32) uint32 { return asSample(times(ofSample(a), ofSample(b))) }

func quotientTold(a, b uint32) uint32 {
	if b == 0 || b == minusZero {
		return 0
	}
	return asSample(by(ofSample(a), ofSample(b)))
}

// eachPlace: a picture of p's space and form: of each plane, and each place of it, what at tells.
func eachPlace(p api.Picture, at func(n, i int) uint32) api.Picture {
	told := api.Picture{Space: p.Space}
	for n, q := range p.Planes {
		l := api.Plane{W: q.W, H: q.H}
		for i := range q.S {
			l.S = append(l.S, at(n, i))
		}
		told.Planes = append(told.Planes, l)
	}
	return told
}

func mixTold(kind int, p, q api.Picture) api.Picture {
	return eachPlace(p, func(n, i int) uint32 {
		return oneTold(kind, p.Planes[n].S[i], p.Planes[3].S[i], q.Planes[n].S[i], q.Planes[3].S[i])
	})
}

func fadeTold(p api.Picture, t uint32) api.Picture {
	return eachPlace(p, func(n, i int) uint32 { return productTold(p.Planes[n].S[i], t) })
}

func betweenTold(p, q api.Picture, t uint32) api.Picture {
	return eachPlace(p, func(n, i int) uint32 { return stepTold(p.Planes[n].S[i], q.Planes[n].S[i], t) })
}

// byAlphaTold: do of each of the first three samples of a place and its alpha.
func byAlphaTold(p api.Picture, do func(s, a uint32) uint32) api.Picture {
	return eachPlace(p, func(n, i int) uint32 {
		if n == 3 {
			return p.Planes[3].S[i]
		}
		return do(p.Planes[n].S[i], p.Planes[3].S[i])
	})
}
