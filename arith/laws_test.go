package arith_test

import (
	"testing"

	"halide/arith"
)

// threes: triples of edges, and of samples by chance.
func threes(each func(a, b, c uint32)) {
	for _, a := range someEdges() {
		for _, b := range someEdges() {
			for _, c := range someEdges() {
				each(a, b, c)
			}
		}
	}
	next := chance(7)
	for range 100000 {
		a, b, c := next(), next(), next()
		each(a, b, c)
		each(a, near(a, b), near(a, c))
	}
}

func TestP2_7OrderOfArguments(t *testing.T) {
	threes(func(a, b, _ uint32) {
		check(t, "Add", arith.Add(a, b), arith.Add(b, a), a, b)
		check(t, "Mul", arith.Mul(a, b), arith.Mul(b, a), a, b)
		check(t, "Least", arith.Least(a, b), arith.Least(b, a), a, b)
		check(t, "Greatest", arith.Greatest(a, b), arith.Greatest(b, a), a, b)
	})
}

func TestP2_7FmaAsMulAndAsAdd(t *testing.T) {
	threes(func(a, b, c uint32) {
		check(t, "Fma by 1", arith.Fma(a, one, c), arith.Add(a, c), a, c)
		if !isNought(a) && !isNought(b) {
			check(t, "Fma and -0", arith.Fma(a, b, minusZero), arith.Mul(a, b), a, b)
		}
	})
}

func TestP2_7HalfFourWays(t *testing.T) {
	all := edges()
	for s := uint64(0); s < 1<<32; s += 9973 {
		all = append(all, uint32(s))
	}
	for _, a := range all {
		h := arith.Half(a)
		check(t, "Scale by -1", arith.Scale(a, -1), h, a)
		check(t, "Mul by 1/2", arith.Mul(a, half), h, a)
		check(t, "Div by 2", arith.Div(a, two), h, a)
	}
}

func TestP2_7NarrowOfWide(t *testing.T) {
	all := edges()
	for s := uint64(0); s < 1<<32; s += 9973 {
		all = append(all, uint32(s))
	}
	for _, a := range all {
		want := a
		if isNaN(a) {
			want = made
		}
		check(t, "Narrow(Wide)", arith.Narrow(arith.Wide(a)), want, a)
	}
}

// notAbove: as far as none is a NaN.
func notAbove(t *testing.T, call string, low, high, a, b, c uint32) {
	t.Helper()
	if !isNaN(low) && !isNaN(high) && arith.Less(high, low) {
		t.Fatalf("%s(%08X, %08X; %08X): %08X is above %08X", call, a, b, c, low, high)
	}
}

func TestP2_8Rising(t *testing.T) {
	threes(func(a, b, c uint32) {
		if arith.Less(b, a) {
			a, b = b, a
		}
		if isNaN(a) || isNaN(b) {
			return
		}
		notAbove(t, "Add", arith.Add(a, c), arith.Add(b, c), a, b, c)
		notAbove(t, "Sqrt", arith.Sqrt(a), arith.Sqrt(b), a, b, c)
		c &^= sign
		notAbove(t, "Mul", arith.Mul(a, c), arith.Mul(b, c), a, b, c)
	})
}

// withinTwice: both finite, of one sign, neither more than twice the other.
func withinTwice(a, b uint32) bool {
	if isNaN(a) || isNaN(b) || isInfinite(a) || isInfinite(b) || signOf(a) != signOf(b) {
		return false
	}
	x, y := exact(a), exact(b)
	x.Abs(x)
	y.Abs(y)
	return x.Cmp(y.Mul(y, power(-1))) >= 0 && x.Cmp(y.Mul(y, power(2))) <= 0
}

func TestP2_8SubIsExactNearby(t *testing.T) {
	held := 0
	hold := func(a, b uint32) {
		if !withinTwice(a, b) {
			return
		}
		held++
		d := arith.Sub(a, b)
		x := exact(a)
		if x.Sub(x, exact(b)).Cmp(exact(d)) != 0 {
			t.Fatalf("Sub(%08X, %08X): %08X isn't exact", a, b, d)
		}
		if !arith.Equal(arith.Add(d, b), a) {
			t.Fatalf("Add(Sub(%08X, %08X), b) isn't a", a, b)
		}
	}
	for _, a := range numbers() {
		for _, b := range numbers() {
			hold(a, b)
		}
		hold(a, arith.Scale(a, 1))
		hold(a, arith.Half(a))
	}
	next := chance(8)
	for range 20000 {
		a, b := next(), next()
		hold(a, signOf(a)|near(a, b)&^uint32(sign))
		hold(a, a^b>>12)
	}
	if held < 2000 {
		t.Errorf("held only %d times", held)
	}
}
