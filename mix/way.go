package mix

import (
	"math"

	"halide/api"
	"halide/arith"
)

func number(s uint32) float64 { return math.Float64frombits(arith.Wide(s)) }

func sample(f float64) uint32 { return arith.Narrow(math.Float64bits(f)) }

// Each operation of the float64s stands in a conversion: its answer is rounded before anything else is done with it.

func product(a, b float64) float64 { return float64(a * b) }

func sum(a, b float64) float64 { return float64(a + b) }

// rest tells what a share leaves of 1.
func rest(a float64) float64 { return float64(1 - a) }

// way: a way of mixing: what it makes of a number s with the alpha sa, laid on a number d with the alpha da.
type way struct {
	kind   int
	reckon func(s, sa, d, da float64) float64
}

func ways() [6]way {
	return [...]way{
		{api.MixOver, func(s, sa, d, _ float64) float64 { return sum(s, product(d, rest(sa))) }},
		{api.MixIn, func(s, _, _, da float64) float64 { return product(s, da) }},
		{api.MixOut, func(s, _, _, da float64) float64 { return product(s, rest(da)) }},
		{api.MixAtop, func(s, sa, d, da float64) float64 { return sum(product(s, da), product(d, rest(sa))) }},
		{api.MixXor, func(s, sa, d, da float64) float64 { return sum(product(s, rest(da)), product(d, rest(sa))) }},
		{api.MixPlus, func(s, _, d, _ float64) float64 { return sum(s, d) }},
	}
}

func wayOf(kind int) (way, api.Errno) {
	for _, w := range ways() {
		if w.kind == kind {
			return w, api.OK
		}
	}
	return way{}, api.ErrMixKind
}

func (w way) one(s, sa, d, da uint32) uint32 {
	return sample(w.reckon(number(s), number(sa), number(d), number(da)))
}
