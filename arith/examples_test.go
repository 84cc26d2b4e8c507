package arith_test

import (
	"math"
	"testing"

	"halide/api"
	"halide/arith"
)

// The chapter's section 'Examples'.

func TestExamplesOfSamples(t *testing.T) {
	for _, c := range []struct {
		what      string
		got, want uint32
	}{
		{"Add(3F800000, 33800000)", arith.Add(0x3F800000, 0x33800000), 0x3F800000},
		{"Add(3F800001, 33800000)", arith.Add(0x3F800001, 0x33800000), 0x3F800002},
		{"Mul(00800000, 3F000000)", arith.Mul(0x00800000, 0x3F000000), 0x00400000},
		{"Half(00000001)", arith.Half(1), 0},
		{"Half(00000003)", arith.Half(3), 2},
		{"Sub(3F800000, 3F800000)", arith.Sub(0x3F800000, 0x3F800000), 0},
		{"Add(80000000, 80000000)", arith.Add(0x80000000, 0x80000000), 0x80000000},
		{"Div(3F800000, 80000000)", arith.Div(0x3F800000, 0x80000000), 0xFF800000},
		{"Sqrt(80000000)", arith.Sqrt(0x80000000), 0x80000000},
		{"Sqrt(BF800000)", arith.Sqrt(0xBF800000), 0x7FC00000},
		{"Fma(3F800001, 3F800001, BF800002)", arith.Fma(0x3F800001, 0x3F800001, 0xBF800002), 0x28800000},
		{"Sub(Mul(3F800001, 3F800001), 3F800002)", arith.Sub(arith.Mul(0x3F800001, 0x3F800001), 0x3F800002), 0},
		{"Fma(80000000, 3F800000, 80000000)", arith.Fma(0x80000000, 0x3F800000, 0x80000000), 0x80000000},
		{"FromInt(16777217)", arith.FromInt(16777217), 0x4B800000},
		{"FromInt(9007199791611905)", arith.FromInt(9007199791611905), 0x5A000001},
		{"Narrow(36A0000000000000)", arith.Narrow(0x36A0000000000000), 1},
		{"Narrow(3690000000000000)", arith.Narrow(0x3690000000000000), 0},
		{"Narrow(3690000000000001)", arith.Narrow(0x3690000000000001), 1},
		{"Narrow(47EFFFFFF0000000)", arith.Narrow(0x47EFFFFFF0000000), 0x7F800000},
		{"Narrow(47EFFFFFEFFFFFFF)", arith.Narrow(0x47EFFFFFEFFFFFFF), 0x7F7FFFFF},
	} {
		if c.got != c.want {
			t.Errorf("%s: %08X, want %08X", c.what, c.got, c.want)
		}
	}
	if w := arith.Wide(1); w != 0x36A0000000000000 {
		t.Errorf("Wide(00000001): %016X", w)
	}
}

func TestExamplesOfWholeNumbers(t *testing.T) {
	for _, c := range []struct {
		name string
		call func(uint32) (int64, api.Errno)
		s    uint32
		want int64
		e    api.Errno
	}{
		{"Floor", arith.Floor, 0xBF000000, -1, api.OK},
		{"Nearest", arith.Nearest, 0xBF000000, 0, api.OK},
		{"Nearest", arith.Nearest, 0x40200000, 2, api.OK},
		{"Floor", arith.Floor, 0x5F000000, 0, api.ErrArithRange},
		{"Floor", arith.Floor, 0xDF000000, math.MinInt64, api.OK},
	} {
		if n, e := c.call(c.s); n != c.want || e != c.e {
			t.Errorf("%s(%08X): %d, %d, want %d, %d", c.name, c.s, n, e, c.want, c.e)
		}
	}
}
