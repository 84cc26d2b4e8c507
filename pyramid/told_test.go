package pyramid_test

import (
	"math"
	"math/big"

	"halide/api"
)

// What the chapter says of each call, word by word, of arguments that are right; numbers of 53 bits by math/big, whose exponents have no end: none here comes near binary64's.

// wideNumber: a number of binary64; nil: a NaN.
type wideNumber = *big.Float

func ofSample(s uint32) wideNumber {
	if isNaN(s) {
		return nil
	}
	return new(big.Float).SetPrec(53).SetFloat64(value(s))
}

func ofWhole(n int) wideNumber { return new(big.Float).SetPrec(53).SetInt64(int64(n)) }

// reckoned: one operation, rounded by itself.
func reckoned(operation func(z, x, y *big.Float) *big.Float, x, y wideNumber) (told wideNumber) {
	if x == nil || y == nil {
		return nil
	}
	defer func() {
		switch r := recover().(type) {
		case nil:
		case big.ErrNaN:
			told = nil
		default:
			panic(r)
		}
	}()
	return operation(new(big.Float).SetPrec(53).SetMode(big.ToNearestEven), x, y)
}

func plus(x, y wideNumber) wideNumber { return reckoned((*big.Float).Add, x, y) }

func times(x, y wideNumber) wideNumber { return reckoned((*big.Float).Mul, x, y) }

func by(x, y wideNumber) wideNumber { return reckoned((*big.Float).Quo, x, y) }

func asSample(x wideNumber) uint32 {
	if x == nil {
		return made
	}
	f, _ := x.Float32()
	return math.Float32bits(f)
}

func weighTold(weights []int, samples []uint32) uint32 {
	sum := times(ofWhole(weights[0]), ofSample(samples[0]))
	together := weights[0]
	for i := 1; i < len(weights); i++ {
		sum = plus(sum, times(ofWhole(weights[i]), ofSample(samples[i])))
		together += weights[i]
	}
	return asSample(by(sum, ofWhole(together)))
}

func halfTold(n int) int { return int(math.Floor(float64(n+1) / 2)) }

// clampedTold: of n places the one that stands for i.
func clampedTold(n, i int) int {
	switch {
	case i < 0:
		return 0
	case i > n-1:
		return n - 1
	}
	return i
}

// reducedAt: of a line of n, told by its places, the sample at i of its half.
func reducedAt(n, i int, line func(k int) uint32) uint32 {
	var l []uint32
	for _, k := range []int{2*i - 2, 2*i - 1, 2 * i, 2*i + 1, 2*i + 2} {
		l = append(l, line(clampedTold(n, k)))
	}
	return weighTold([]int{1, 4, 6, 4, 1}, l)
}

func reduceTold(p api.Plane) api.Plane {
	w, h := halfTold(p.W), halfTold(p.H)
	t := planeOf(w, p.H)
	for y := 0; y < p.H; y++ {
		for i := 0; i < w; i++ {
			t.S = append(t.S, reducedAt(p.W, i, func(k int) uint32 { return at(p, k, y) }))
		}
	}
	told := planeOf(w, h)
	for j := 0; j < h; j++ {
		for i := 0; i < w; i++ {
			told.S = append(told.S, reducedAt(p.H, j, func(k int) uint32 { return at(t, i, k) }))
		}
	}
	return told
}

// expandedAt: of a line of n, told by its places, the sample at x of its double.
func expandedAt(n, x int, line func(k int) uint32) uint32 {
	i := x / 2
	if x == 2*i {
		return weighTold([]int{1, 6, 1}, []uint32{line(clampedTold(n, i-1)), line(i), line(clampedTold(n, i+1))})
	}
	return weighTold([]int{1, 1}, []uint32{line(i), line(clampedTold(n, i+1))})
}

func expandTold(p api.Plane, w, h int) api.Plane {
	t := planeOf(w, p.H)
	for y := 0; y < p.H; y++ {
		for x := 0; x < w; x++ {
			t.S = append(t.S, expandedAt(p.W, x, func(k int) uint32 { return at(p, k, y) }))
		}
	}
	told := planeOf(w, h)
	for y := 0; y < h; y++ {
		for x := 0; x < w; x++ {
			told.S = append(told.S, expandedAt(p.H, y, func(k int) uint32 { return at(t, x, k) }))
		}
	}
	return told
}

const around = 1 << 32

func keyTold(s uint32) int {
	if s < sign {
		return int(s) + sign
	}
	return around - 1 - int(s)
}

func ofKeyTold(k int) uint32 {
	if k >= sign {
		return uint32(k - sign)
	}
	return uint32(around - 1 - k)
}

func splitTold(p api.Plane) (coarse, fine api.Plane) {
	coarse = reduceTold(p)
	guess := expandTold(coarse, p.W, p.H)
	fine = planeOf(p.W, p.H)
	for i, s := range p.S {
		fine.S = append(fine.S, uint32((keyTold(s)-keyTold(guess.S[i])+around)%around))
	}
	return coarse, fine
}

func joinTold(coarse, fine api.Plane) api.Plane {
	guess := expandTold(coarse, fine.W, fine.H)
	told := planeOf(fine.W, fine.H)
	for i, s := range fine.S {
		told.S = append(told.S, ofKeyTold((int(s)+keyTold(guess.S[i]))%around))
	}
	return told
}

func buildTold(p api.Plane, levels int) []api.Plane {
	var told []api.Plane
	for range levels {
		coarse, fine := splitTold(p)
		told = append(told, fine)
		p = coarse
	}
	return append(told, p)
}

func restoreTold(l []api.Plane) api.Plane {
	told := l[len(l)-1]
	for k := len(l) - 2; k >= 0; k-- {
		told = joinTold(told, l[k])
	}
	return told
}
