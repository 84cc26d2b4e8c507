package arith_test

import "math/big"

// What P2.2 says of each way of reckoning, by whole numbers alone.

func addTold(a, b uint32) uint32 {
	switch {
	case isNaN(a) || isNaN(b) || isInfinite(a) && b == a^sign:
		return made
	case isInfinite(a):
		return a
	case isInfinite(b):
		return b
	}
	x := exact(a)
	x.Add(x, exact(b))
	switch {
	case x.Sign() != 0:
		return rounded(x)
	case a == minusZero && b == minusZero:
		return minusZero
	}
	return plusZero
}

func subTold(a, b uint32) uint32 { return addTold(a, b^sign) }

func mulTold(a, b uint32) uint32 {
	minus := signOf(a ^ b)
	switch {
	case isNaN(a) || isNaN(b) || isInfinite(a) && isNought(b) || isNought(a) && isInfinite(b):
		return made
	case isInfinite(a) || isInfinite(b):
		return minus | infinity
	case isNought(a) || isNought(b):
		return minus
	}
	x := exact(a)
	return rounded(x.Mul(x, exact(b)))
}

func divTold(a, b uint32) uint32 {
	minus := signOf(a ^ b)
	switch {
	case isNaN(a) || isNaN(b) || isInfinite(a) && isInfinite(b) || isNought(a) && isNought(b):
		return made
	case isInfinite(a) || isNought(b):
		return minus | infinity
	case isNought(a) || isInfinite(b):
		return minus
	}
	x := exact(a)
	return rounded(x.Quo(x, exact(b)))
}

func fmaTold(a, b, c uint32) uint32 {
	minus := signOf(a ^ b)
	endless := isInfinite(a) || isInfinite(b)
	nought := isNought(a) || isNought(b)
	switch {
	case isNaN(a) || isNaN(b) || isNaN(c) || endless && nought:
		return made
	case endless && isInfinite(c) && signOf(c) != minus:
		return made
	case endless:
		return minus | infinity
	case isInfinite(c):
		return c
	}
	x := exact(a)
	x.Mul(x, exact(b))
	x.Add(x, exact(c))
	switch {
	case x.Sign() != 0:
		return rounded(x)
	case nought && minus != 0 && c == minusZero:
		return minusZero
	}
	return plusZero
}

func sqrtTold(a uint32) uint32 {
	switch {
	case isNaN(a):
		return made
	case isNought(a) || a == infinity:
		return a
	case signOf(a) != 0:
		return made
	}
	x := exact(a)
	square := func(v *big.Rat) *big.Rat { return new(big.Rat).Mul(v, v) }
	below := fromSize(func(v *big.Rat) bool { return square(v).Cmp(x) > 0 })
	between := exact(below)
	between.Add(between, exact(below+1))
	between.Mul(between, big.NewRat(1, 2))
	if c := x.Cmp(square(between)); c > 0 || c == 0 && below%2 == 1 {
		below++
	}
	return below
}

func scaleTold(a uint32, n int) uint32 {
	switch {
	case isNaN(a):
		return made
	case isInfinite(a) || isNought(a):
		return a
	}
	x := exact(a)
	return rounded(x.Mul(x, power(n)))
}
