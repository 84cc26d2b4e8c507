package blur_test

import (
	"math"
	"math/big"

	"halide/api"
	"halide/plane"
)

// What the chapter says of each call, word by word, of arguments that are right; numbers of 53 bits by math/big, whose exponents have no end: none here comes near binary64's.

// wideNumber: a number of binary64; nil: a NaN.
type wideNumber = *big.Float

func ofSample(s uint32) wideNumber {
	if isNaN(s) {
		return nil
	}
	return new(big.Float).SetPrec(53).SetFloat64(value(s))
}

func ofWhole(n int) wideNumber { return new(big.Float).SetPrec(53).SetInt64(int64(n)) }

// reckoned: one operation, rounded by itself.
func reckoned(operation func(z, x, y *big.Float) *big.Float, x, y wideNumber) (told wideNumber) {
	if x == nil || y == nil {
		return nil
	}
	defer func() {
		switch r := recover().(type) {
		case nil:
		case big.ErrNaN:
			told = nil
		default:
			panic(r)
		}
	}()
	return operation(new(big.Float).SetPrec(53).SetMode(big.ToNearestEven), x, y)
}

func plus(x, y wideNumber) wideNumber { return reckoned((*big.Float).Add, x, y) }

func less(x, y wideNumber) wideNumber { return reckoned((*big.Float).Sub, x, y) }

func times(x, y wideNumber) wideNumber { return reckoned((*big.Float).Mul, x, y) }

func by(x, y wideNumber) wideNumber { return reckoned((*big.Float).Quo, x, y) }

func asSample(x wideNumber) uint32 {
	if x == nil {
		return made
	}
	f, _ := x.Float32()
	return math.Float32bits(f)
}

// weightsTold counts ways by Pascal's triangle.
func weightsTold(kind, radius int) []int {
	n := 2*radius + 1
	l := make([]int, n)
	for i := range l {
		l[i] = 1
	}
	if kind == api.Flat {
		return l
	}
	for things := 2; things < n; things++ {
		for i := things - 1; i > 0; i-- {
			l[i] += l[i-1]
		}
	}
	return l
}

func weightsSumTold(kind, radius int) int {
	if kind == api.Flat {
		return 2*radius + 1
	}
	return 1 << (2 * radius)
}

func weighTold(kind, radius int, samples []uint32) uint32 {
	weights := weightsTold(kind, radius)
	sum := times(ofWhole(weights[0]), ofSample(samples[0]))
	for i := 1; i < len(weights); i++ {
		sum = plus(sum, times(ofWhole(weights[i]), ofSample(samples[i])))
	}
	return asSample(by(sum, ofWhole(weightsSumTold(kind, radius))))
}

func borderTold(border, n, i int) int { return must(plane.Border(border, n, i)) }

func blurTold(p api.Plane, kind, radius, border int) api.Plane {
	t := planeOf(p.W, p.H)
	for y := 0; y < p.H; y++ {
		for x := 0; x < p.W; x++ {
			var l []uint32
			for k := -radius; k <= radius; k++ {
				l = append(l, at(p, borderTold(border, p.W, x+k), y))
			}
			t.S = append(t.S, weighTold(kind, radius, l))
		}
	}
	told := planeOf(p.W, p.H)
	for y := 0; y < p.H; y++ {
		for x := 0; x < p.W; x++ {
			var l []uint32
			for k := -radius; k <= radius; k++ {
				l = append(l, at(t, x, borderTold(border, p.H, y+k)))
			}
			told.S = append(told.S, weighTold(kind, radius, l))
		}
	}
	return told
}

func slopeTold(above, below uint32) uint32 {
	return asSample(by(less(ofSample(above), ofSample(below)), ofWhole(2)))
}

func gradientTold(p api.Plane, border int) (across, down api.Plane) {
	across, down = planeOf(p.W, p.H), planeOf(p.W, p.H)
	for y := 0; y < p.H; y++ {
		for x := 0; x < p.W; x++ {
			across.S = append(across.S, slopeTold(at(p, borderTold(border, p.W, x+1), y), at(p, borderTold(border, p.W, x-1), y)))
			down.S = append(down.S, slopeTold(at(p, x, borderTold(border, p.H, y+1)), at(p, x, borderTold(border, p.H, y-1))))
		}
	}
	return across, down
}

func sharpenTold(p api.Plane, kind, radius, border int, amount uint32) api.Plane {
	b := blurTold(p, kind, radius, border)
	told := planeOf(p.W, p.H)
	for i := range p.S {
		d := less(ofSample(p.S[i]), ofSample(b.S[i]))
		told.S = append(told.S, asSample(plus(ofSample(p.S[i]), times(ofSample(amount), d))))
	}
	return told
}
