package curve

import (
	"sort"

	"halide/api"
	"halide/arith"
	"halide/bits"
)

// rising: a curve or a chain, as a proof asks it. From its first end's key to its last one's, At rises by value: so the places that have come to something are all of them from one key on, and the one below that key proves it.
type rising interface {
	At(x uint32) uint32
	ends() (first, last uint32)
}

// comes tells whether at x it isn't below y; it comes to no NaN.
func comes(r rising, x, y uint32) bool {
	at := r.At(x)
	return arith.Less(y, at) || arith.Equal(y, at)
}

func least(r rising, y uint32) (api.Proof, api.Errno) {
	first, last := r.ends()
	if !comes(r, last, y) {
		return api.Proof{}, api.ErrCurveNone
	}
	place := func(n int) uint32 { return bits.FromKey(bits.Key(first) + uint32(n)) }
	n := sort.Search(bits.Apart(first, last), func(n int) bool { return comes(r, place(n), y) })
	if n == 0 {
		return api.Proof{X: first}, api.OK
	}
	return api.Proof{X: place(n), Below: place(n - 1), Has: true}, api.OK
}

func check(r rising, y uint32, p api.Proof) bool {
	first, last := r.ends()
	if bits.Before(p.X, first) || bits.Before(last, p.X) || !comes(r, p.X, y) || p.Has != (p.X != first) {
		return false
	}
	if !p.Has {
		return p.Below == 0
	}
	return bits.Apart(p.Below, p.X) == 1 && !comes(r, p.Below, y)
}
