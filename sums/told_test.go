package sums_test

import (
	"math/big"

	"halide/arith"
)

// What the chapter says of each call, word by word; by whole numbers where it speaks of exact ones.

func madeTold(s uint32) uint32 {
	if isNaN(s) {
		return made
	}
	return s
}

func leftTold(l []uint32) uint32 {
	if len(l) == 0 {
		return plusZero
	}
	sum := madeTold(l[0])
	for i := 1; i < len(l); i++ {
		sum = arith.Add(sum, l[i])
	}
	return sum
}

func pairsTold(l []uint32) uint32 {
	n := len(l)
	if n == 0 {
		return plusZero
	}
	if n == 1 {
		return madeTold(l[0])
	}
	return arith.Add(pairsTold(l[:n/2]), pairsTold(l[n/2:]))
}

func kahanTold(l []uint32) uint32 {
	if len(l) == 0 {
		return plusZero
	}
	s, c := madeTold(l[0]), uint32(plusZero)
	for i := 1; i < len(l); i++ {
		y := arith.Sub(l[i], c)
		t := arith.Add(s, y)
		c = arith.Sub(arith.Sub(t, s), y)
		s = t
	}
	return s
}

const (
	minusZero64 = 1 << 63
	infinity64  = 0x7FF0000000000000
)

func isNaN64(w uint64) bool      { return w&^minusZero64 > infinity64 }
func isInfinite64(w uint64) bool { return w&^minusZero64 == infinity64 }

// value64: of a finite binary64, read from its bits.
func value64(w uint64) *big.Rat {
	n, e := w&(1<<52-1), int(w>>52&2047)
	if e > 0 {
		n |= 1 << 52
		e--
	}
	x := new(big.Rat).SetInt(new(big.Int).SetUint64(n))
	x.Mul(x, power(e-1074))
	if w>>63 != 0 {
		x.Neg(x)
	}
	return x
}

func wideTold(s uint32) uint64 {
	switch {
	case isNaN(s):
		return madeWide
	case isInfinite(s):
		return infinity64 | uint64(s>>31)<<63
	case s == minusZero:
		return minusZero64
	}
	return rounded64(valueOf(s))
}

func add64Told(a, b uint64) uint64 {
	switch {
	case isNaN64(a) || isNaN64(b) || isInfinite64(a) && b == a^minusZero64:
		return madeWide
	case isInfinite64(a):
		return a
	case isInfinite64(b):
		return b
	case a == minusZero64 && b == minusZero64:
		return minusZero64
	}
	return rounded64(new(big.Rat).Add(value64(a), value64(b)))
}

func left64Told(l []uint32) uint64 {
	if len(l) == 0 {
		return 0
	}
	sum := wideTold(l[0])
	for i := 1; i < len(l); i++ {
		sum = add64Told(sum, wideTold(l[i]))
	}
	return sum
}

func product64Told(weight int, s uint32) uint64 {
	minus := uint64(s>>31) << 63
	if weight < 0 {
		minus ^= minusZero64
	}
	switch {
	case isNaN(s) || isInfinite(s) && weight == 0:
		return madeWide
	case isInfinite(s):
		return minus | infinity64
	case weight == 0 || s&^uint32(sign) == 0:
		return minus
	}
	x := new(big.Rat).SetInt64(int64(weight))
	return rounded64(x.Mul(x, valueOf(s)))
}

func dot64Told(weights []int, l []uint32) uint64 {
	if len(l) == 0 {
		return 0
	}
	sum := product64Told(weights[0], l[0])
	for i := 1; i < len(l); i++ {
		sum = add64Told(sum, product64Told(weights[i], l[i]))
	}
	return sum
}

func dotTold(weights []int, l []uint32) uint32 {
	sum := dot64Told(weights, l)
	switch {
	case isNaN64(sum):
		return made
	case isInfinite64(sum):
		return infinity | uint32(sum>>63)<<31
	case sum&^minusZero64 == 0:
		return uint32(sum>>63) << 31
	}
	x := value64(sum)
	return rounded(x.Mul(x, power(-16)))
}

func sumOf(l []uint32) *big.Rat {
	sum := new(big.Int)
	for _, s := range l {
		sum.Add(sum, unitsOf(s))
	}
	return valueOfUnits(sum)
}

// exactTold: the exact sum divided by n, rounded once.
func exactTold(l []uint32, n int64) uint32 {
	anyNaN, above, below, allMinus := false, false, false, len(l) > 0
	for _, s := range l {
		anyNaN = anyNaN || isNaN(s)
		above = above || s == infinity
		below = below || s == infinity|sign
		allMinus = allMinus && s == minusZero
	}
	switch {
	case anyNaN || above && below:
		return made
	case above:
		return infinity
	case below:
		return infinity | sign
	case allMinus:
		return minusZero
	}
	x := sumOf(l)
	return rounded(x.Quo(x, new(big.Rat).SetInt64(n)))
}
