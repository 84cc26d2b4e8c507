package arith_test

import (
	"testing"

	"halide/arith"
)

// compared: by value, of two numbers.
func compared(a, b uint32) int {
	place := func(s uint32) int {
		size := int(s &^ uint32(sign)) // sizes of one sign stand in the order of their bits
		if signOf(s) != 0 {
			return -size
		}
		return size
	}
	return place(a) - place(b)
}

func holdOrder(t *testing.T, a, b uint32) {
	t.Helper()
	c := compared(a, b)
	if got := arith.Less(a, b); got != (c < 0) {
		t.Fatalf("Less(%08X, %08X): %v", a, b, got)
	}
	if got := arith.Equal(a, b); got != (c == 0) {
		t.Fatalf("Equal(%08X, %08X): %v", a, b, got)
	}
	least, most := a, b
	if c > 0 || c == 0 && signOf(b) != 0 {
		least, most = b, a
	}
	check(t, "Least", arith.Least(a, b), least, a, b)
	check(t, "Greatest", arith.Greatest(a, b), most, a, b)
}

func TestP2_4OrderOfNumbers(t *testing.T) {
	for _, a := range numbers() {
		for _, b := range numbers() {
			holdOrder(t, a, b)
		}
	}
	next := chance(4)
	for range 100000 {
		a, b := next(), next()
		if !isNaN(a) && !isNaN(b) {
			holdOrder(t, a, b)
			holdOrder(t, a, near(a, b))
			holdOrder(t, a, a^sign)
		}
	}
}

func TestP2_4NoOrderOfNaNs(t *testing.T) {
	for _, n := range nans() {
		for _, s := range edges() {
			if arith.Less(n, s) || arith.Less(s, n) || arith.Equal(n, s) || arith.Equal(s, n) {
				t.Errorf("%08X, %08X: told an order", n, s)
			}
		}
	}
}

func TestP2_4Noughts(t *testing.T) {
	const minus = minusZero
	if !arith.Equal(plusZero, minus) || !arith.Equal(minus, plusZero) || arith.Less(minus, plusZero) || arith.Less(plusZero, minus) {
		t.Error("-0 and +0 have one value")
	}
	for _, p := range [][2]uint32{{plusZero, minus}, {minus, plusZero}} {
		check(t, "Least", arith.Least(p[0], p[1]), minus, p[0], p[1])
		check(t, "Greatest", arith.Greatest(p[0], p[1]), plusZero, p[0], p[1])
	}
}
