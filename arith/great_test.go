package arith_test

import (
	"math"
	"testing"

	"halide/arith"
)

// Numbers about 2^128 - 2^103, from which on a number is an infinity, of both signs.

const halfLast = 0x73000000 // 2^103: half of the greatest sample's last bit

func TestP2_6NarrowOfTooGreat(t *testing.T) {
	for _, c := range []struct {
		w    uint64
		want uint32
	}{
		{0x47EFFFFFC0000000, greatest - 1},
		{0x47EFFFFFE0000000, greatest},
		{0x47EFFFFFE0000001, greatest},
		{0x47EFFFFFEFFFFFFE, greatest},
		{0x47EFFFFFEFFFFFFF, greatest}, // the greatest binary64 below the bound
		{0x47EFFFFFF0000000, infinity}, // the bound
		{0x47EFFFFFF0000001, infinity},
		{0x47EFFFFFFFFFFFFF, infinity},
		{0x47F0000000000000, infinity},
		{0x49AFFFFFE0000000, infinity},
		{0x7FEFFFFFFFFFFFFF, infinity},
		{0x7FF0000000000000, infinity},
		{0x7FF0000000000001, made},
	} {
		below := c.want | sign
		if c.want == made {
			below = made
		}
		for w, want := range map[uint64]uint32{c.w: c.want, c.w | 1<<63: below} {
			if got := arith.Narrow(w); got != want {
				t.Errorf("Narrow(%016X): %08X, want %08X", w, got, want)
			}
		}
	}
}

func TestP2_3ScaleToTooGreat(t *testing.T) {
	for _, c := range []struct {
		s    uint32
		n    int
		want uint32
	}{
		{greatest, 0, greatest},
		{greatest, 1, infinity},
		{greatest, 2, infinity},
		{greatest, 300, infinity},
		{greatest, 301, infinity},
		{greatest, math.MaxInt, infinity},
		{0x7EFFFFFF, 1, greatest}, // half of the greatest one
		{0x7F000000, 1, infinity}, // 2^127
		{leastSmall, 276, 0x7F000000},
		{leastSmall, 277, infinity},
		{greatestSmall, 254, greatest - 1},
		{greatestSmall, 255, infinity},
		{0x00FFFFFF, 253, greatest},
		{0x00FFFFFF, 254, infinity},
		{infinity, 0, infinity},
		{infinity, math.MinInt, infinity},
	} {
		check(t, "Scale", arith.Scale(c.s, c.n), c.want, c.s, uint32(c.n))
		check(t, "Scale", arith.Scale(c.s|sign, c.n), c.want|sign, c.s|sign, uint32(c.n))
	}
}

func TestP2_2FmaToTooGreat(t *testing.T) {
	// Their product is 2^128 - 2^103 exactly: 18631 times 1801 is 2^25 - 1.
	const a, b = 0x46918E00, 0x78612000
	for _, c := range []struct{ a, b, c, want uint32 }{
		{greatest, 0x40000000, plusZero, infinity},
		{greatest, greatest, one | sign, infinity},
		{greatest, greatest, greatest | sign, infinity},
		{greatest, one, plusZero, greatest},
		{greatest, one, halfLast - 1, greatest},
		{greatest, one, halfLast, infinity}, // the bound
		{greatest, one, halfLast + 1, infinity},
		{a, b, plusZero, infinity}, // the bound
		{a, b, minusZero, infinity},
		{a, b, leastSmall, infinity},
		{a, b, leastSmall | sign, greatest},
		{a, b, one | sign, greatest},
		{a, b, halfLast | sign, greatest},
		{0x5F800000, 0x5F800000, 0xF3000000, infinity}, // 2^128 - 2^103
		{0x5F800000, 0x5F800000, 0xF3000001, greatest},
		{0x5F800000, 0x5F800000, greatest | sign, 0x73800000}, // the product alone is too great
	} {
		check(t, "Fma", fmaTold(c.a, c.b, c.c), c.want, c.a, c.b, c.c)
		check(t, "Fma", arith.Fma(c.a, c.b, c.c), c.want, c.a, c.b, c.c)
		check(t, "Fma", arith.Fma(c.a^sign, c.b, c.c^sign), c.want^sign, c.a^sign, c.b, c.c^sign)
		check(t, "Fma", arith.Fma(c.a, c.b^sign, c.c^sign), c.want^sign, c.a, c.b^sign, c.c^sign)
	}
}
