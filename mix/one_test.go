package mix_test

import (
	"testing"

	"halide/api"
	"halide/mix"
)

func name(kind int) string {
	return []string{"Over", "In", "Out", "Atop", "Xor", "Plus"}[kind-1]
}

func checkOne(t *testing.T, kind int, s, sa, d, da uint32) {
	t.Helper()
	got, e := mix.One(kind, s, sa, d, da)
	if e != api.OK {
		t.Fatalf("%s: %d", name(kind), e)
	}
	checkSample(t, name(kind), got, oneTold(kind, s, sa, d, da), s, sa, d, da)
}

func TestP15_1Edges(t *testing.T) {
	l := fewEdges()
	for _, kind := range kinds() {
		for _, s := range l {
			for _, sa := range l {
				for _, d := range l {
					for _, da := range l {
						checkOne(t, kind, s, sa, d, da)
					}
				}
			}
		}
	}
}

// Each edge beside each other one, in each two of the four places.
func TestP15_1PairsOfEdges(t *testing.T) {
	for _, kind := range kinds() {
		for _, a := range edges() {
			for _, b := range edges() {
				checkOne(t, kind, a, b, half, quarter)
				checkOne(t, kind, a, half, b, quarter)
				checkOne(t, kind, a, half, quarter, b)
				checkOne(t, kind, quarter, a, b, half)
				checkOne(t, kind, quarter, a, half, b)
				checkOne(t, kind, quarter, half, a, b)
			}
		}
	}
}

func TestP15_1ByChance(t *testing.T) {
	next := chance(151)
	for range 60000 {
		for _, kind := range kinds() {
			checkOne(t, kind, next(), next(), next(), next())
			checkOne(t, kind, near(next), share(next), near(next), share(next))
			checkOne(t, kind, about(40, next), about(40, next), about(40, next), about(40, next))
		}
	}
}

// A number that takes most of a sum away shows how the rest was rounded.
func TestP15_1WhatIsLeft(t *testing.T) {
	next := chance(152)
	for range 60000 {
		s, sa, d, da := near(next), share(next), near(next), share(next)
		if next()%2 == 0 {
			sa, da = about(12, next), about(12, next)
		}
		from := func(f float64) float64 { return 1 - f }
		checkOne(t, 1, sampleOf(-value(d)*from(value(sa))), sa, d, da)
		checkOne(t, 4, sampleOf(-value(d)*from(value(sa))/value(da)), sa, d, da)
		checkOne(t, 4, s, sa, sampleOf(-value(s)*value(da)/from(value(sa))), da)
		checkOne(t, 5, sampleOf(-value(d)*from(value(sa))/from(value(da))), sa, d, da)
		checkOne(t, 5, s, sa, sampleOf(-value(s)*from(value(da))/from(value(sa))), da)
		checkOne(t, 6, s, sa, s^sign, da)
		checkOne(t, 6, s, sa, s^sign+next()%9-4, da)
	}
}

// Where it is rounded: by itself each, in binary64, then to a sample.
func TestP15_1WhereItRounds(t *testing.T) {
	const (
		above = one + 1    // 1 + u, u = 2^-23
		below = 0x33FFFFFE // u - u^2: (1 + u) (1 - below) is 1 + u^3
	)
	for _, c := range []struct {
		what            string
		kind            int
		s, sa, d, da, x uint32
	}{
		{"a difference in binary32 would lose it", 1, one | sign, power(-30), one, one, power(-30) | sign},
		{"a difference in binary64 loses it", 1, one | sign, power(-60), one, one, 0},
		{"the same of the lower alpha", 3, one, one, one, power(-60), one},
		{"a product is rounded ahead of the sum", 1, one | sign, below, above, one, 0},
		{"Atop's second product", 4, one | sign, below, above, one, 0},
		{"Xor's second product", 5, one | sign, below, above, 0, 0},
		{"Xor's first product", 5, above, 0, one | sign, below, 0},
		{"a product in binary32 would lose it", 4, above, 0, 0xBF800002, above, power(-46)},
		{"a sum is rounded to binary64 first: a tie", 1, one, 0xAB800000, power(-24), one, one}, // 1 and 2^-24 (1 + 2^-40)
		{"that tie, of an odd sample", 1, above, 0x2B800000, power(-24), one, one + 2},
		{"too great", 6, greatest, 0, greatest, 0, infinity},
		{"too great, below 0", 6, greatest | sign, 0, power(103) | sign, 0, infinity | sign},
		{"not yet too great", 6, greatest, 0, power(102), 0, greatest},
		{"too great only between", 4, greatest, minusZero, greatest | sign, one, 0},
		{"too great for binary32 only between", 4, greatest, one | sign, 0xFEFFFFFF, two, greatest},
		{"an alpha that is too great for binary32", 2, greatest, 0, 0, greatest, infinity},
		{"a half of the least one", 2, leastSmall, 0, 0, half, 0},
		{"a half of the least one, below 0", 2, leastSmall | sign, 0, 0, half, minusZero},
		{"one and a half of the least one", 2, 3, 0, 0, half, 2},
	} {
		checkSample(t, c.what, must(mix.One(c.kind, c.s, c.sa, c.d, c.da)), c.x, c.s, c.sa, c.d, c.da)
		checkOne(t, c.kind, c.s, c.sa, c.d, c.da)
	}
}

// Signs of noughts are IEEE's: a difference of 1 and 1 is +0, a sum of noughts is -0 only if both are.
func TestP15_1Noughts(t *testing.T) {
	for _, c := range []struct {
		kind            int
		s, sa, d, da, x uint32
	}{
		{1, minusZero, 0, minusZero, 0, minusZero},
		{1, minusZero, one, one | sign, 0, minusZero},
		{1, minusZero, one, one, 0, 0},
		{1, 0, one, one | sign, 0, 0},
		{1, half | sign, half, one, one, 0},
		{2, minusZero, 0, 0, one, minusZero},
		{2, one, 0, 0, minusZero, minusZero},
		{2, one | sign, 0, 0, minusZero, 0},
		{3, one | sign, 0, 0, one, minusZero},
		{3, minusZero, 0, 0, two, 0},
		{4, minusZero, one, one | sign, one, minusZero},
		{4, minusZero, one, one, one, 0},
		{5, one | sign, one, one | sign, one, minusZero},
		{5, one | sign, one, one, one, 0},
		{6, minusZero, 0, minusZero, 0, minusZero},
		{6, minusZero, 0, 0, minusZero, 0},
		{6, one, 0, one | sign, 0, 0},
	} {
		checkSample(t, name(c.kind), must(mix.One(c.kind, c.s, c.sa, c.d, c.da)), c.x, c.s, c.sa, c.d, c.da)
	}
}

// Every NaN is Made, whichever went in, and where none did; what a way doesn't look at isn't seen.
func TestP15_1NaNs(t *testing.T) {
	looks := [][4]bool{{true, true, true, false}, {true, false, false, true}, {true, false, false, true}, {true, true, true, true}, {true, true, true, true}, {true, false, true, false}}
	for _, kind := range kinds() {
		for i, isSeen := range looks[kind-1] {
			for _, nan := range nans() {
				l := [4]uint32{half, half, half, half}
				want := must(mix.One(kind, half, half, half, half))
				if isSeen {
					want = made
				}
				l[i] = nan
				checkSample(t, name(kind), must(mix.One(kind, l[0], l[1], l[2], l[3])), want, l[:]...)
			}
		}
	}
	for _, c := range [][5]uint32{
		{1, one, one, infinity, 0},
		{1, infinity, infinity, one, 0},
		{1, infinity, 0, infinity | sign, 0},
		{2, infinity, 0, 0, 0},
		{2, minusZero, 0, 0, infinity},
		{3, infinity, 0, 0, one},
		{4, infinity, half, one, 0},
		{4, infinity, 0, infinity | sign, one},
		{5, infinity, half, one, one},
		{5, one, one, infinity | sign, half},
		{6, infinity | sign, 0, infinity, 0},
	} {
		checkSample(t, "no number", must(mix.One(int(c[0]), c[1], c[2], c[3], c[4])), made, c[1:]...)
	}
}

func TestP15_1NoKind(t *testing.T) {
	for _, kind := range wrongKinds() {
		for _, s := range fewEdges() {
			if got, e := mix.One(kind, s, one, s, half); got != 0 || e != api.ErrMixKind {
				t.Fatalf("kind %d: %08X, %d", kind, got, e)
			}
		}
	}
}
