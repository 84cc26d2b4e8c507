package sums

import (
	"math"
	"math/bits"
)

// A sum of finite samples is a whole number of units. The unit is a quarter of the least sample: so in a quotient too there is a place for a half of a last bit, and one for whatever is beyond it.
const (
	fractionBits = 23
	leading      = 1 << fractionBits // a normal sample's number has it above its fraction
	topExponent  = 255
	unitPower    = -151
	unitsShift   = 2  // the least sample is 1 shifted so far
	heldBits     = 53 // of a binary64's number
)

// number: a whole number in two's complement, its lowest bits first. 2^31 samples of at most 2^279 units take 311 bits of its 320.
type number [5]uint64

// add adds a finite sample.
func (n *number) add(s uint32) {
	size, exponent := uint64(s%leading), int(s>>fractionBits&topExponent)
	if exponent == 0 {
		exponent = 1 // both have one power
	} else {
		size += leading
	}
	step := bits.Add64
	if s&signBit != 0 {
		step = bits.Sub64
	}
	at := exponent - 1 + unitsShift
	i, shift := at/64, at%64
	carry := uint64(0)
	n[i], carry = step(n[i], size<<shift, carry)
	n[i+1], carry = step(n[i+1], size>>(64-shift), carry)
	for i += 2; i < len(n) && carry != 0; i++ {
		n[i], carry = step(n[i], 0, carry)
	}
}

func (n number) plus(m number) number {
	carry := uint64(0)
	for i := range n {
		n[i], carry = bits.Add64(n[i], m[i], carry)
	}
	return n
}

func (n number) negated() number {
	for i := range n {
		n[i] = ^n[i]
	}
	return n.plus(number{1})
}

func (n number) negative() bool { return n[len(n)-1]>>63 != 0 }

// divided tells that many units divided by d (1 or more), rounded to odd: so a second rounding, to a sample, falls as it would for the exact number.
func (n number) divided(d uint64) float64 {
	if n.negative() {
		return -n.negated().sizeDivided(d)
	}
	return n.sizeDivided(d)
}

func (n number) sizeDivided(d uint64) float64 {
	rest := uint64(0)
	for i := len(n) - 1; i >= 0; i-- {
		n[i], rest = bits.Div64(rest, n[i], d)
	}
	beneath := max(0, n.length()-heldBits)
	top := n.from(beneath)
	if rest != 0 || n.trailing() < beneath {
		top |= 1
	}
	return math.Ldexp(float64(top), beneath+unitPower)
}

// length tells how many bits a size has.
func (n number) length() int {
	for i := len(n) - 1; i >= 0; i-- {
		if n[i] != 0 {
			return 64*i + bits.Len64(n[i])
		}
	}
	return 0
}

// trailing tells how many of a number's lowest bits are 0.
func (n number) trailing() int {
	for i, part := range n {
		if part != 0 {
			return 64*i + bits.TrailingZeros64(part)
		}
	}
	return 64 * len(n)
}

// from tells the 64 bits of a size from a bit on.
func (n number) from(bit int) uint64 {
	i, shift := bit/64, bit%64
	low := n[i] >> shift
	if i+1 == len(n) {
		return low
	}
	return low | n[i+1]<<(64-shift)
}
