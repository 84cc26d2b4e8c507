// Package bits: samples as bits: see doc/01-bits.md.
package bits

import "halide/api"

// How a sample's bits lie, and how far its parts go.
const (
	signBit       = 1 << 31
	fractionBits  = 23
	leading       = 1 << fractionBits // a normal sample's number has it above its fraction
	topExponent   = 255               // of infinities and NaNs alone
	leastPower    = -149
	greatestPower = 104
	lastKey       = 1<<32 - 1
)

// makeup: what a sample's bits are made of.
type makeup struct {
	negative bool
	exponent uint32
	fraction uint32
}

func makeupOf(s uint32) makeup {
	return makeup{
		negative: s&signBit != 0,
		exponent: s >> fractionBits & topExponent,
		fraction: s & (leading - 1),
	}
}

func (m makeup) sample() uint32 {
	s := m.exponent<<fractionBits | m.fraction
	if m.negative {
		s |= signBit
	}
	return s
}

// Class tells what a sample is.
func Class(s uint32) int {
	m := makeupOf(s)
	m.negative = false // no class hangs on the sign
	switch {
	case m == makeup{}:
		return api.ClassZero
	case m == makeup{exponent: topExponent}:
		return api.ClassInf
	case m.exponent == topExponent:
		return api.ClassNaN
	case m.exponent == 0:
		return api.ClassSmall
	}
	return api.ClassNormal
}

// IsNaN tells whether it is a NaN.
func IsNaN(s uint32) bool { return Class(s) == api.ClassNaN }

// Made tells a sample, or the made NaN.
func Made(s uint32) uint32 {
	if IsNaN(s) {
		return api.Made
	}
	return s
}

// Parts tells a finite sample as a whole number times a power of two.
func Parts(s uint32) (int, int, bool) {
	m := makeupOf(s)
	if m.exponent == topExponent {
		return 0, 0, false
	}
	n, e := int(m.fraction), leastPower
	if m.exponent != 0 {
		n += leading
		e += int(m.exponent) - 1 // the exponents 0 and 1 have one power
	}
	if m.negative {
		n = -n
	}
	return n, e, true
}

// FromParts tells the sample that is just that.
func FromParts(n, e int) (uint32, bool) {
	if n == 0 {
		return 0, true
	}
	size, e, ok := fitted(sizeOf(n), e)
	if !ok {
		return 0, false
	}
	m := makeup{negative: n < 0, fraction: uint32(size)}
	if size >= leading {
		m.exponent = uint32(e - leastPower + 1)
		m.fraction -= leading
	}
	return m.sample(), true
}

// sizeOf takes the wrap-round of uint64: the least int's size is no int.
func sizeOf(n int) uint64 {
	if n < 0 {
		return -uint64(n)
	}
	return uint64(n)
}

// fitted tells a size that isn't 0 and its power in the one form that a sample holds (a size below leading has the least power), if it can without losing a bit.
func fitted(size uint64, e int) (uint64, int, bool) {
	// Even 1 is too great here, and what follows may go up from e: it must not go round.
	if e > greatestPower+fractionBits {
		return 0, 0, false
	}
	// Ends soon, whatever e: a size has fewer than 64 halves.
	for size >= 2*leading || e < leastPower {
		if size%2 != 0 {
			return 0, 0, false
		}
		size /= 2
		e++
	}
	for size < leading && e > leastPower {
		size *= 2
		e--
	}
	if e > greatestPower {
		return 0, 0, false
	}
	return size, e, true
}

// Key tells a sample's place in the order.
func Key(s uint32) uint32 {
	if s&signBit != 0 {
		return lastKey - s
	}
	return s | signBit
}

// FromKey tells the sample at a place.
func FromKey(k uint32) uint32 {
	if k&signBit != 0 {
		return k &^ signBit
	}
	return lastKey - k
}

// Next tells the sample directly above.
func Next(s uint32) (uint32, bool) {
	k := Key(s)
	if k == lastKey {
		return 0, false
	}
	return FromKey(k + 1), true
}

// Prev tells the one directly below.
func Prev(s uint32) (uint32, bool) {
	k := Key(s)
	if k == 0 {
		return 0, false
	}
	return FromKey(k - 1), true
}

// Apart tells how many places b is above a.
func Apart(a, b uint32) int { return int(Key(b)) - int(Key(a)) }

// Before tells whether a stands ahead of b.
func Before(a, b uint32) bool { return Key(a) < Key(b) }

// Least tells the first one of two.
func Least(a, b uint32) uint32 {
	if Before(b, a) {
		return b
	}
	return a
}

// Greatest tells the last one of two.
func Greatest(a, b uint32) uint32 {
	if Before(a, b) {
		return b
	}
	return a
}

// Median tells the middle one of three.
func Median(a, b, c uint32) uint32 {
	return Greatest(Least(a, b), Least(Greatest(a, b), c))
}

// Between tells s, not ahead of lo, not behind hi.
func Between(s, lo, hi uint32) uint32 { return Least(Greatest(s, lo), hi) }
