package coder

import (
	"math"

	"halide/api"
)

// reader takes numbers from bits.
type reader struct {
	state
	bytes []byte
	taken int // bits
}

// number takes one, and learns it.
func (r *reader) number() (uint32, api.Errno) {
	z, e := r.spelled(r.low())
	if e == api.OK {
		r.learn(z)
	}
	return z, e
}

// spelled takes a number of which k bits may stand as they are.
func (r *reader) spelled(k int) (uint32, api.Errno) {
	q, e := r.ones()
	if e != api.OK {
		return 0, e
	}
	if q == mostOnes {
		return r.byAll(k)
	}
	return r.byQuotient(q, k)
}

// ones takes bits 1, up to the bit 0 that ends them, or up to mostOnes of them, which nothing ends.
func (r *reader) ones() (int, api.Errno) {
	for q := range mostOnes {
		bit, e := r.bits(1)
		if e != api.OK {
			return 0, e
		}
		if bit == 0 {
			return q, api.OK
		}
	}
	return mostOnes, api.OK
}

// byAll refuses a number that its quotient would have spelled.
func (r *reader) byAll(k int) (uint32, api.Errno) {
	z, e := r.bits(allBits)
	if e != api.OK {
		return 0, e
	}
	if z>>k < mostOnes {
		return 0, api.ErrCoderForm
	}
	return z, api.OK
}

// byQuotient refuses a number that 32 bits don't hold.
func (r *reader) byQuotient(q, k int) (uint32, api.Errno) {
	low, e := r.bits(k)
	if e != api.OK {
		return 0, e
	}
	if uint32(q) > math.MaxUint32>>k {
		return 0, api.ErrCoderForm
	}
	return uint32(q)<<k | low, api.OK
}

// bits takes n of them, at most 32, the highest first, or none, if there are fewer.
func (r *reader) bits(n int) (uint32, api.Errno) {
	if n > r.left() {
		return 0, api.ErrCoderShort
	}
	var v uint32
	for range n {
		bit := r.bytes[r.taken/8] >> (7 - r.taken%8) & 1
		v = v<<1 | uint32(bit)
		r.taken++
	}
	return v, api.OK
}

func (r *reader) left() int { return 8*len(r.bytes) - r.taken }

// atEnd: less than a byte is left, of bits 0 alone.
func (r *reader) atEnd() bool {
	n := r.left()
	if n >= 8 {
		return false
	}
	rest, e := r.bits(n)
	return e == api.OK && rest == 0
}
