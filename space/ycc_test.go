package space_test

import (
	"math"
	"math/big"
	"testing"

	"halide/space"
)

// wide: a number of binary64, reckoned with by whole numbers; nil is a NaN. (No number here leaves binary64's range.)
type wide struct{ f *big.Float }

func wideOf(s uint32) wide {
	if isNaN(s) {
		return wide{}
	}
	return wide{new(big.Float).SetPrec(53).SetFloat64(valueOf(s))}
}

func (a wide) add(b wide) wide {
	if a.f == nil || b.f == nil || a.f.IsInf() && b.f.IsInf() && a.f.Signbit() != b.f.Signbit() {
		return wide{}
	}
	return wide{new(big.Float).SetPrec(53).Add(a.f, b.f)}
}

func (a wide) sub(b wide) wide {
	if b.f == nil {
		return wide{}
	}
	return a.add(wide{new(big.Float).Neg(b.f)})
}

func (a wide) times(n float64) wide {
	if a.f == nil {
		return wide{}
	}
	return wide{new(big.Float).SetPrec(53).Mul(a.f, big.NewFloat(n))}
}

func (a wide) sample() uint32 {
	if a.f == nil {
		return made
	}
	f, _ := a.f.Float32()
	return math.Float32bits(f)
}

// What P7.1 says, word by word.

func toYCCTold(c three) three {
	r, g, b := wideOf(c[0]), wideOf(c[1]), wideOf(c[2])
	s := r.add(b)
	return three{
		s.add(g.times(2)).times(0.25).sample(),
		g.times(2).sub(s).times(0.25).sample(),
		r.sub(b).times(0.5).sample(),
	}
}

func fromYCCTold(c three) three {
	y, cg, co := wideOf(c[0]), wideOf(c[1]), wideOf(c[2])
	t := y.sub(cg)
	return three{t.add(co).sample(), y.add(cg).sample(), t.sub(co).sample()}
}

func TestP7_1YCC(t *testing.T) {
	threes(func(c three) {
		checkThree(t, "ToYCC", of(space.ToYCC(c[0], c[1], c[2])), toYCCTold(c), c)
		checkThree(t, "FromYCC", of(space.FromYCC(c[0], c[1], c[2])), fromYCCTold(c), c)
	})
}

func TestP7_1ToYCCAtEdges(t *testing.T) {
	tiny := sampleOf(0x1p-60)
	far := sampleOf(0x1p60)
	below := uint32(infinity | sign)
	for _, c := range []struct {
		what      string
		rgb, want three
	}{
		{"rounded in binary64 first: a tie, to even", three{one, sampleOf(0x1p-25), tiny}, three{quarter, 0xBE7FFFFF, half}},
		{"beyond that a tie no more", three{one, sampleOf(0x1p-25), sampleOf(0x1p-50)}, three{quarter + 1, 0xBE7FFFFF, half}},
		{"r and b first: they cancel", three{far, one, far | sign}, three{half, half, far}},
		{"s has lost b", three{far, far | sign, one}, three{sampleOf(-0x1p58), sampleOf(-0x1.8p59), sampleOf(0x1p59)}},
		{"sums above the greatest sample", three{greatest, greatest, greatest}, three{greatest, plusZero, plusZero}},
		{"a difference as great", three{greatest, minusZero, greatest | sign}, three{plusZero, minusZero, greatest}},
		{"cg as great", three{greatest | sign, greatest, greatest | sign}, three{plusZero, greatest, plusZero}},
		{"small ones", three{3, 2, 1}, three{2, plusZero, 1}},
		{"halves of the least: ties to even", three{1, 0, 0}, three{plusZero, minusZero, plusZero}},
		{"up from three quarters", three{1, 1, 0}, three{1, plusZero, plusZero}},
		{"below 0", three{1 | sign, 1 | sign, 0}, three{1 | sign, minusZero, minusZero}},
		{"noughts with the sign", three{minusZero, minusZero, minusZero}, three{minusZero, plusZero, plusZero}},
		{"one without it", three{minusZero, plusZero, minusZero}, three{plusZero, plusZero, plusZero}},
		{"co -0", three{minusZero, plusZero, plusZero}, three{plusZero, plusZero, minusZero}},
		{"cg -0", three{plusZero, minusZero, plusZero}, three{plusZero, minusZero, plusZero}},
		{"infinities that cancel", three{infinity, one, below}, three{made, made, infinity}},
		{"infinities of one sign", three{infinity, infinity, infinity}, three{infinity, made, made}},
		{"infinite g", three{one, below, one}, three{below, below, plusZero}},
		{"a NaN in r", three{0xFFC12345, one, one}, three{made, made, made}},
		{"a NaN in g", three{one, leastNaN, one}, three{made, made, plusZero}},
		{"a NaN in b", three{one, one, lastNaN | sign}, three{made, made, made}},
	} {
		if got := of(space.ToYCC(c.rgb[0], c.rgb[1], c.rgb[2])); got != c.want {
			t.Errorf("%s: ToYCC(%08X): %08X, want %08X", c.what, c.rgb, got, c.want)
		}
	}
}

func TestP7_1FromYCCAtEdges(t *testing.T) {
	below := uint32(infinity | sign)
	for _, c := range []struct {
		what      string
		ycc, want three
	}{
		{"t isn't made a sample", three{one, sampleOf(0x1p-30), one | sign}, three{sampleOf(-0x1p-30), one, two}},
		{"t above the greatest sample", three{greatest, greatest | sign, greatest | sign}, three{greatest, plusZero, infinity}},
		{"too great", three{greatest, greatest, minusZero}, three{plusZero, infinity, plusZero}},
		{"too great below 0", three{greatest | sign, greatest | sign, greatest}, three{greatest, below, greatest | sign}},
		{"a tie up to the infinity", three{greatest, sampleOf(0x1p103), plusZero}, three{greatest - 1, infinity, greatest - 1}},
		{"just below it", three{greatest, 0x72FFFFFF, plusZero}, three{greatest, greatest, greatest}},
		{"small ones", three{5, 3, 1}, three{3, 8, 1}},
		{"noughts with the sign", three{minusZero, minusZero, minusZero}, three{plusZero, minusZero, plusZero}},
		{"t is -0", three{minusZero, plusZero, minusZero}, three{minusZero, plusZero, plusZero}},
		{"t is -0, co +0", three{minusZero, plusZero, plusZero}, three{plusZero, plusZero, minusZero}},
		{"infinite co", three{one, one, below}, three{below, two, infinity}},
		{"a NaN in y", three{0xFFC12345, one, one}, three{made, made, made}},
		{"a NaN in cg", three{one, leastNaN | sign, one}, three{made, made, made}},
		{"a NaN in co", three{one, one, lastNaN}, three{made, two, made}},
	} {
		if got := of(space.FromYCC(c.ycc[0], c.ycc[1], c.ycc[2])); got != c.want {
			t.Errorf("%s: FromYCC(%08X): %08X, want %08X", c.what, c.ycc, got, c.want)
		}
	}
}

// greatestSize: the greatest one of three finite samples' sizes.
func greatestSize(c three) uint32 {
	return max(c[0]&^uint32(sign), c[1]&^uint32(sign), c[2]&^uint32(sign))
}

func TestP7_6ThereAndBack(t *testing.T) {
	held := 0
	threes(func(c three) {
		m := greatestSize(c)
		if m > power100 {
			return
		}
		held++
		back := of(space.FromYCC(space.ToYCC(c[0], c[1], c[2])))
		bound := new(big.Rat).Mul(exact(m), power(-24))
		bound.Mul(bound, big.NewRat(5, 1))
		bound.Add(bound, power(-147))
		for i, s := range back {
			if !isFinite(s) {
				t.Fatalf("of %08X comes back %08X", c, back)
			}
			d := exact(s)
			if d.Sub(d, exact(c[i])).Abs(d).Cmp(bound) > 0 {
				t.Fatalf("of %08X comes back %08X: too far off", c, back)
			}
		}
	})
	if held < 20000 {
		t.Errorf("held only %d times", held)
	}
}

func TestP7_6OneSampleThrice(t *testing.T) {
	held := 0
	for _, s := range strewn() {
		if s&^uint32(sign) > power100 {
			continue
		}
		held++
		ycc := of(space.ToYCC(s, s, s))
		checkThree(t, "ToYCC", ycc, three{s, plusZero, plusZero}, three{s, s, s})
		for _, b := range of(space.FromYCC(ycc[0], ycc[1], ycc[2])) {
			if isNaN(b) || valueOf(b) != valueOf(s) {
				t.Fatalf("of %08X thrice comes back %08X", s, b)
			}
		}
	}
	if held < 100000 {
		t.Errorf("held only %d times", held)
	}
}

func TestP7_8YIsAmongThem(t *testing.T) {
	held := 0
	threes(func(c three) {
		r, g, b := valueOf(c[0]), valueOf(c[1]), valueOf(c[2])
		if !isFinite(c[0]) || !isFinite(c[1]) || !isFinite(c[2]) {
			return
		}
		held++
		s, _, _ := space.ToYCC(c[0], c[1], c[2])
		if y := valueOf(s); isNaN(s) || y < min(r, g, b) || y > max(r, g, b) {
			t.Fatalf("ToYCC(%08X): y is %08X", c, s)
		}
	})
	if held < 100000 {
		t.Errorf("held only %d times", held)
	}
}
