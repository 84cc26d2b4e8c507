package arith_test

import (
	"math"
	"testing"

	"halide/arith"
)

// pairs: what takes two samples and tells one, and what the chapter says of it.
func pairs() []struct {
	name string
	call func(a, b uint32) uint32
	told func(a, b uint32) uint32
} {
	return []struct {
		name string
		call func(a, b uint32) uint32
		told func(a, b uint32) uint32
	}{
		{"Add", arith.Add, addTold},
		{"Sub", arith.Sub, subTold},
		{"Mul", arith.Mul, mulTold},
		{"Div", arith.Div, divTold},
	}
}

func TestP2_1RoundedOnce(t *testing.T) {
	for _, c := range []struct {
		what      string
		got, want uint32
	}{
		{"1 + 2^-24, a tie", arith.Add(one, 0x33800000), one},
		{"1 + 2^-23 + 2^-24, a tie", arith.Add(one+1, 0x33800000), one + 2},
		{"just above a tie", arith.Add(one, 0x33800001), one + 1},
		{"just below a tie", arith.Add(one+1, 0x337FFFFF), one + 1},
		{"-1 - 2^-24, a tie", arith.Add(one|sign, 0x33800000|sign), one | sign},
		{"2^128 - 2^103", arith.Add(greatest, 0x73000000), infinity},
		{"just below 2^128 - 2^103", arith.Add(greatest, 0x72FFFFFF), greatest},
		{"-2^128 + 2^103", arith.Sub(greatest|sign, 0x73000000), infinity | sign},
		{"just above -2^128 + 2^103", arith.Sub(greatest|sign, 0x72FFFFFF), greatest | sign},
		{"2^-150", arith.Mul(leastSmall, half), plusZero},
		{"-2^-150", arith.Mul(leastSmall|sign, half), minusZero},
		{"just above 2^-150", arith.Mul(leastSmall, half+1), leastSmall},
		{"between -2^-150 and 0", arith.Mul(leastSmall, leastSmall|sign), minusZero},
		{"-2^-150 by Fma", arith.Fma(leastSmall|sign, half, plusZero), minusZero},
		{"tiny by Fma", arith.Fma(leastSmall, leastSmall|sign, plusZero), minusZero},
		{"tiny quotient", arith.Div(leastSmall, greatest|sign), minusZero},
		{"3 * 2^-150, a tie", arith.Mul(3, half), 2},
		{"normal to subnormal", arith.Mul(leastNormal, half), 0x00400000},
		{"subnormal to normal", arith.Add(greatestSmall, leastSmall), leastNormal},
		{"tie up to normal", arith.Mul(0x00FFFFFF, half), leastNormal},
		{"great quotient", arith.Div(greatest, leastSmall|sign), infinity | sign},
	} {
		if c.got != c.want {
			t.Errorf("%s: %08X, want %08X", c.what, c.got, c.want)
		}
	}
}

func TestP2_1NaNsTellMade(t *testing.T) {
	for _, n := range nans() {
		for _, s := range edges() {
			for _, p := range pairs() {
				check(t, p.name, p.call(n, s), made, n, s)
				check(t, p.name, p.call(s, n), made, s, n)
			}
			check(t, "Least", arith.Least(n, s), made, n, s)
			check(t, "Least", arith.Least(s, n), made, s, n)
			check(t, "Greatest", arith.Greatest(n, s), made, n, s)
			check(t, "Greatest", arith.Greatest(s, n), made, s, n)
			check(t, "Fma", arith.Fma(n, s, one), made, n, s, one)
			check(t, "Fma", arith.Fma(s, n, one), made, s, n, one)
			check(t, "Fma", arith.Fma(one, s, n), made, one, s, n)
			check(t, "Fma", arith.Fma(plusZero, s, n), made, plusZero, s, n)
		}
		check(t, "Sqrt", arith.Sqrt(n), made, n)
		check(t, "Half", arith.Half(n), made, n)
		for _, k := range []int{0, 1, -1, 1000, math.MinInt, math.MaxInt} {
			check(t, "Scale", arith.Scale(n, k), made, n)
		}
		if w := arith.Wide(n); w != 0x7FF8000000000000 {
			t.Errorf("Wide(%08X): %016X", n, w)
		}
	}
	for _, w := range []uint64{0x7FF0000000000001, 0xFFF0000000000001, 0x7FF8000000000000, 0xFFF8000000000000, 0x7FFFFFFFFFFFFFFF, 0xFFFFFFFFFFFFFFFF, 0x7FF0000010000000, 0x7FF000000FFFFFFF} {
		if s := arith.Narrow(w); s != made {
			t.Errorf("Narrow(%016X): %08X", w, s)
		}
	}
}

func TestP2_2TwoAtEdges(t *testing.T) {
	for _, p := range pairs() {
		for _, a := range edges() {
			for _, b := range edges() {
				check(t, p.name, p.call(a, b), p.told(a, b), a, b)
			}
		}
	}
}

func TestP2_2TwoByChance(t *testing.T) {
	next := chance(22)
	for range 3000 {
		a, b := next(), next()
		for _, p := range pairs() {
			check(t, p.name, p.call(a, b), p.told(a, b), a, b)
			c := near(a, b)
			check(t, p.name, p.call(a, c), p.told(a, c), a, c)
		}
	}
}

func TestP2_2NoughtsAndInfinities(t *testing.T) {
	const minus, below = minusZero, infinity | sign
	for _, c := range []struct {
		what      string
		got, want uint32
	}{
		{"-0 + -0", arith.Add(minus, minus), minus},
		{"-0 + +0", arith.Add(minus, plusZero), plusZero},
		{"+0 + -0", arith.Add(plusZero, minus), plusZero},
		{"-1 + 1", arith.Add(one|sign, one), plusZero},
		{"1 - 1", arith.Sub(one, one), plusZero},
		{"-1 - -1", arith.Sub(one|sign, one|sign), plusZero},
		{"-0 - +0", arith.Sub(minus, plusZero), minus},
		{"-0 - -0", arith.Sub(minus, minus), plusZero},
		{"+0 - +0", arith.Sub(plusZero, plusZero), plusZero},
		{"+0 - -0", arith.Sub(plusZero, minus), plusZero},
		{"-0 * 1", arith.Mul(minus, one), minus},
		{"-0 * -0", arith.Mul(minus, minus), plusZero},
		{"+0 / -1", arith.Div(plusZero, one|sign), minus},
		{"-0 / -1", arith.Div(minus, one|sign), plusZero},
		{"root of -0", arith.Sqrt(minus), minus},
		{"root of +0", arith.Sqrt(plusZero), plusZero},
		{"inf + -inf", arith.Add(infinity, below), made},
		{"inf - inf", arith.Sub(infinity, infinity), made},
		{"inf - -inf", arith.Sub(infinity, below), infinity},
		{"-inf + -inf", arith.Add(below, below), below},
		{"inf * -0", arith.Mul(infinity, minus), made},
		{"-inf * least", arith.Mul(below, leastSmall), below},
		{"0 / 0", arith.Div(plusZero, minus), made},
		{"inf / inf", arith.Div(below, infinity), made},
		{"1 / -0", arith.Div(one, minus), below},
		{"-1 / -0", arith.Div(one|sign, minus), infinity},
		{"inf / -0", arith.Div(infinity, minus), below},
		{"1 / -inf", arith.Div(one, below), minus},
		{"-greatest / -inf", arith.Div(greatest|sign, below), plusZero},
		{"root of -1", arith.Sqrt(one | sign), made},
		{"root of the greatest below 0", arith.Sqrt(leastSmall | sign), made},
		{"root of -inf", arith.Sqrt(below), made},
		{"root of inf", arith.Sqrt(infinity), infinity},
		{"-0 * 1 + -0", arith.Fma(minus, one, minus), minus},
		{"0 * 1 + -0", arith.Fma(plusZero, one, minus), plusZero},
		{"-0 * 1 + +0", arith.Fma(minus, one, plusZero), plusZero},
		{"-1 * 1 + 1", arith.Fma(one|sign, one, one), plusZero},
		{"1 * 1 - 1", arith.Fma(one, one, one|sign), plusZero},
		{"inf * 1 + -inf", arith.Fma(infinity, one, below), made},
		{"inf * -1 + inf", arith.Fma(infinity, one|sign, infinity), made},
		{"inf * -1 + -inf", arith.Fma(infinity, one|sign, below), below},
		{"inf * 0 + 1", arith.Fma(infinity, plusZero, one), made},
		{"0 * -inf + inf", arith.Fma(plusZero, below, infinity), made},
		{"greatest * greatest + -inf", arith.Fma(greatest, greatest, below), below},
		{"-inf * 1 + greatest", arith.Fma(below, one, greatest), below},
	} {
		if c.got != c.want {
			t.Errorf("%s: %08X, want %08X", c.what, c.got, c.want)
		}
	}
}

func TestP2_2Sqrt(t *testing.T) {
	for _, a := range edges() {
		check(t, "Sqrt", arith.Sqrt(a), sqrtTold(a), a)
	}
	next := chance(23)
	for range 4000 {
		a := next()
		check(t, "Sqrt", arith.Sqrt(a), sqrtTold(a), a)
		a &^= sign
		check(t, "Sqrt", arith.Sqrt(a), sqrtTold(a), a)
	}
}

func TestP2_2FmaAtEdges(t *testing.T) {
	for _, a := range someEdges() {
		for _, b := range someEdges() {
			for _, c := range someEdges() {
				check(t, "Fma", arith.Fma(a, b, c), fmaTold(a, b, c), a, b, c)
			}
		}
	}
}

func TestP2_2FmaByChance(t *testing.T) {
	next := chance(24)
	for range 6000 {
		a, b, c := next(), next(), next()
		check(t, "Fma", arith.Fma(a, b, c), fmaTold(a, b, c), a, b, c)
		b = near(one, b)
		c = near(arith.Mul(a, b), c)
		check(t, "Fma", arith.Fma(a, b, c), fmaTold(a, b, c), a, b, c)
		c = arith.Mul(a, b) ^ sign // what rounding the product lost is left
		check(t, "Fma", arith.Fma(a, b, c), fmaTold(a, b, c), a, b, c)
	}
}

// besideOne: 1, and what is more or less by a power of two.
func besideOne() []uint32 {
	all := []uint32{one}
	for _, i := range []int{0, 1, 2, 5, 11, 12, 13, 20, 22} {
		all = append(all, one+1<<i, one-1<<i)
	}
	return all
}

// The product is half of the last bit of c, a little more, a little less: by so little that a sum rounded to binary64 would be the half itself.
func TestP2_2FmaBesideHalves(t *testing.T) {
	for _, c := range bothSigns(leastNormal, leastNormal+1, 0x0C000001, one, one+1, one+2, 0x3FFFFFFF, 0x7E800003, greatest) {
		size := c &^ uint32(sign)
		last := arith.Sub(size, size-1)
		up := 60 // keeps both factors normal
		if size > one {
			up = -10
		}
		for _, x := range besideOne() {
			for _, y := range besideOne() {
				a := arith.Mul(x, arith.Scale(last, up))
				for _, b := range bothSigns(arith.Scale(y, -up-1)) {
					check(t, "Fma", arith.Fma(a, b, c), fmaTold(a, b, c), a, b, c)
				}
			}
		}
	}
}

func TestP2_3Scale(t *testing.T) {
	for _, a := range edges() {
		for n := -310; n <= 310; n++ {
			if got, want := arith.Scale(a, n), scaleTold(a, n); got != want {
				t.Fatalf("Scale(%08X, %d): %08X, want %08X", a, n, got, want)
			}
		}
	}
}

func TestP2_3ScaleFar(t *testing.T) {
	for _, a := range numbers() {
		up, down := infinity|signOf(a), signOf(a)
		if isNought(a) {
			up = a
		}
		if isInfinite(a) {
			down = a
		}
		for _, n := range []int{311, 1023, 1024, 2048, 4096, math.MaxInt32, 1 << 31, 1 << 32, 1<<32 + 1, 1 << 62, math.MaxInt - 1000, math.MaxInt} {
			check(t, "Scale, far up", arith.Scale(a, n), up, a)
			check(t, "Scale, far down", arith.Scale(a, -n), down, a)
		}
		check(t, "Scale, least n", arith.Scale(a, math.MinInt), down, a)
	}
}

func TestP2_3Half(t *testing.T) {
	next := chance(25)
	all := edges()
	for range 2000 {
		all = append(all, next(), next()&^0x7F000000)
	}
	for _, a := range all {
		check(t, "Half", arith.Half(a), scaleTold(a, -1), a)
	}
}

func TestP2_10BinarySixtyFourDoesNotShow(t *testing.T) {
	wide := func(a uint32) float64 { return math.Float64frombits(arith.Wide(a)) }
	compare := func(a, b uint32) {
		x, y := wide(a), wide(b)
		for _, c := range []struct {
			name string
			got  uint32
			want float64
		}{{"Add", arith.Add(a, b), x + y}, {"Sub", arith.Sub(a, b), x - y}, {"Mul", arith.Mul(a, b), x * y}, {"Div", arith.Div(a, b), x / y}, {"Sqrt", arith.Sqrt(a), math.Sqrt(x)}} {
			check(t, c.name, c.got, arith.Narrow(math.Float64bits(c.want)), a, b)
		}
	}
	for _, a := range edges() {
		for _, b := range edges() {
			compare(a, b)
		}
	}
	next := chance(210)
	for range 300000 {
		a, b := next(), next()
		compare(a, b)
		compare(a, near(a, b))
	}
}

func TestP2_10WithFmaItShows(t *testing.T) {
	const a, b, c = 0x3F800100, 0x337FFE00, 0x3F800001
	if got := arith.Fma(a, b, c); got != 0x3F800001 {
		t.Errorf("Fma: %08X", got)
	}
	wide := func(a uint32) float64 { return math.Float64frombits(arith.Wide(a)) }
	twice := arith.Narrow(math.Float64bits(float64(wide(a)*wide(b)) + wide(c)))
	if twice != 0x3F800002 {
		t.Errorf("rounded twice: %08X", twice)
	}
}
