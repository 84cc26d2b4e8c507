package mix_test

import (
	"slices"
	"testing"

	"halide/api"
	"halide/arith"
	"halide/mix"
)

// isValue: that a sample has the value of another one; of a NaN it is Made.
func isValue(got, of uint32) bool {
	if isNaN(of) {
		return got == made
	}
	return !isNaN(got) && value(got) == value(of)
}

func checkValue(t *testing.T, what string, got, of uint32) {
	t.Helper()
	if !isValue(got, of) {
		t.Fatalf("%s: %08X, want the value of %08X", what, got, of)
	}
}

func over(s, sa, d uint32) uint32 { return must(mix.One(api.MixOver, s, sa, d, half)) }

func TestP15_5OfEdges(t *testing.T) {
	for _, s := range edges() {
		for _, d := range edges() {
			for _, other := range []uint32{0, half, one, made} { // the alpha that Over doesn't look at
				if isFinite(d) {
					checkValue(t, "Over with sa 1", must(mix.One(api.MixOver, s, one, d, other)), s)
				}
				checkValue(t, "Over with sa +0 and s +0", must(mix.One(api.MixOver, 0, 0, d, other)), d)
			}
			checkValue(t, "In with da 1", must(mix.One(api.MixIn, s, d, d, one)), s)
			checkValue(t, "Out with da +0", must(mix.One(api.MixOut, s, d, d, 0)), s)
			if isFinite(s) {
				checkValue(t, "Out with da 1", must(mix.One(api.MixOut, s, d, d, one)), 0)
				checkValue(t, "In with da +0", must(mix.One(api.MixIn, s, d, d, 0)), 0)
			}
		}
	}
}

func TestP15_5ByChance(t *testing.T) {
	next := chance(155)
	for range 200000 {
		s, d := next(), finiteByChance(next)
		checkValue(t, "Over with sa 1", over(s, one, d), s)
		checkValue(t, "Over with sa +0 and s +0", over(0, 0, s), s)
		checkValue(t, "In with da 1", must(mix.One(api.MixIn, s, s, s, one)), s)
		checkValue(t, "Out with da +0", must(mix.One(api.MixOut, s, s, s, 0)), s)
		checkValue(t, "Out with da 1", must(mix.One(api.MixOut, d, s, s, one)), 0)
		checkValue(t, "In with da +0", must(mix.One(api.MixIn, d, s, s, 0)), 0)
	}
}

// pair: a colour, and its alpha.
type pair struct{ s, a uint32 }

func (p pair) over(q pair) pair { return pair{over(p.s, p.a, q.s), over(p.a, p.a, q.a)} }

func checkPair(t *testing.T, p pair) {
	t.Helper()
	if !(value(p.s) >= 0 && value(p.s) <= value(p.a) && value(p.a) <= 1) {
		t.Fatalf("a colour %08X of an alpha %08X", p.s, p.a)
	}
}

func checkOrderOfLaying(t *testing.T, a, b, c pair) {
	t.Helper()
	first, second := a.over(b), b.over(c)
	checkPair(t, first)
	checkPair(t, second)
	left, right := first.over(c), a.over(second)
	checkPair(t, left)
	checkPair(t, right)
	for _, both := range [][2]uint32{{left.s, right.s}, {left.a, right.a}} {
		if d := value(both[0]) - value(both[1]); d > 3*0x1p-24 || d < -3*0x1p-24 {
			t.Fatalf("of %08X, %08X, %08X: %08X and %08X", a, b, c, both[0], both[1])
		}
	}
}

// edgePairs: alphas, with colours from 0 to them.
func edgePairs() []pair {
	var l []pair
	for _, a := range alphas() {
		for _, s := range append([]uint32{a, arith.Half(a)}, alphas()...) {
			if value(s) <= value(a) {
				l = append(l, pair{s, a})
			}
		}
	}
	return l
}

func TestP15_6Over(t *testing.T) {
	l := edgePairs()
	for i, a := range l {
		for j, b := range l {
			checkOrderOfLaying(t, a, b, l[(7*i+11*j)%len(l)])
		}
	}
	next := chance(156)
	some := func() pair {
		a := share(next)
		return pair{upTo(a, next), a}
	}
	for range 300000 {
		checkOrderOfLaying(t, some(), some(), some())
	}
}

// rising: finite samples in their order by value.
func rising() []uint32 {
	l := finites()
	slices.SortFunc(l, func(a, b uint32) int { return key(a) - key(b) })
	return l
}

func checkRises(t *testing.T, what string, lower, upper uint32) {
	t.Helper()
	if isNaN(lower) || isNaN(upper) || value(lower) > value(upper) {
		t.Fatalf("%s: %08X, then %08X", what, lower, upper)
	}
}

// checkOneRises: a isn't above b by value.
func checkOneRises(t *testing.T, a, b, other, sa, da uint32) {
	t.Helper()
	for _, kind := range kinds() {
		checkRises(t, name(kind)+" with s", must(mix.One(kind, a, sa, other, da)), must(mix.One(kind, b, sa, other, da)))
		checkRises(t, name(kind)+" with d", must(mix.One(kind, other, sa, a, da)), must(mix.One(kind, other, sa, b, da)))
	}
}

func TestP15_7OneRises(t *testing.T) {
	l := rising()
	for i := range len(l) - 1 {
		for _, other := range l {
			for _, sa := range alphas() {
				for _, da := range []uint32{0, minusZero, leastSmall, 0x3EAAAAAB, one - 1, one} {
					checkOneRises(t, l[i], l[i+1], other, sa, da)
				}
			}
		}
	}
	next := chance(157)
	for range 60000 {
		a, b := finiteByChance(next), finiteByChance(next)
		if next()%2 == 0 {
			a, b = near(next), near(next)
		}
		if value(a) > value(b) {
			a, b = b, a
		}
		other, sa, da := near(next), share(next), share(next)
		checkOneRises(t, a, b, other, sa, da)
		if a&0x7FFFFF < 0x7FFFFF && a < sign { // neighbours
			checkOneRises(t, a, a+1, other, sa, da)
		}
	}
}

func checkStepBetween(t *testing.T, a, b, by uint32) {
	t.Helper()
	s := mix.Step(a, b, by)
	if isNaN(s) || value(s) < min(value(a), value(b)) || value(s) > max(value(a), value(b)) {
		t.Fatalf("Step of %08X, %08X, %08X: %08X", a, b, by, s)
	}
}

func checkEnds(t *testing.T, a, b uint32) {
	t.Helper()
	checkValue(t, "Step of t 0", mix.Step(a, b, 0), a)
	checkValue(t, "Step of t -0", mix.Step(a, b, minusZero), a)
	checkValue(t, "Step of t 1", mix.Step(a, b, one), b)
}

func TestP15_7Step(t *testing.T) {
	for _, a := range finites() {
		for _, b := range finites() {
			checkEnds(t, a, b)
			for _, by := range alphas() {
				checkStepBetween(t, a, b, by)
			}
		}
	}
	next := chance(158)
	for range 200000 {
		by := share(next)
		a, b := finiteByChance(next), finiteByChance(next)
		checkEnds(t, a, b)
		checkStepBetween(t, a, b, by)
		c, d := near(next), near(next)
		checkStepBetween(t, c, d, by)
		checkStepBetween(t, c, c, by)
		checkStepBetween(t, a, a, by)
		checkStepBetween(t, c, c^1, by)
	}
}

// thereAndBack: of a colour and an alpha, what Divide of Multiply tells.
func thereAndBack(s, a uint32) uint32 {
	return must(mix.Divide(must(mix.Multiply(place(api.RGB, s, s, s, a))))).Planes[1].S[0]
}

func checkThereAndBack(t *testing.T, s, a uint32) {
	t.Helper()
	if d := key(thereAndBack(s, a)) - key(s); d > 2 || d < -2 {
		t.Fatalf("Divide of Multiply of %08X by %08X: %d keys off", s, a, d)
	}
}

// within: a sample whose size lies from 2^-40 to 2^40.
func within(next func() uint32) uint32 {
	s := (87+next()%81)<<23 | next()&0x7FFFFF
	return min(s, power(40)) | next()&sign
}

func TestP15_8ThereAndBack(t *testing.T) {
	ends := []uint32{power(-40), power(-40) + 1, 0x3EAAAAAB, half, one - 1, one, one + 1, 0x3FFFFFFF, power(40) - 1, power(40)}
	for _, s := range bothSigns(ends...) {
		for _, a := range ends {
			checkThereAndBack(t, s, a)
		}
	}
	next := chance(159)
	for range 100000 {
		s, a := within(next), within(next)&^uint32(sign)
		checkThereAndBack(t, s, a)
		checkThereAndBack(t, near(next), near(next)&^uint32(sign))
	}
}
