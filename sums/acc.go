package sums

import "halide/api"

const (
	signBit  = 1 << 31
	infinity = 0x7F800000
	mostOver = 1<<32 - 1 // the greatest number that Over divides by
)

// Which samples an Acc has met: what its sum is beside the finite ones, and which sign a nought has, hang on that alone.
const (
	metMinusZero = 1 << iota
	metNumber    // a finite one that isn't -0
	metAbove     // the infinity
	metBelow     // the infinity below 0
	metNaN
	metFinite = metMinusZero | metNumber
)

// Acc: an exact sum under way.
type Acc struct {
	finite number // the sum of the finite samples
	met    int
	count  int
}

// New makes one of no samples.
func New() *Acc { return &Acc{} }

// Add adds samples.
func (a *Acc) Add(l ...uint32) {
	for _, s := range l {
		kind := kindOf(s)
		if kind == metNumber {
			a.finite.add(s)
		}
		a.met |= kind
	}
	a.count += len(l)
}

func kindOf(s uint32) int {
	switch size := s &^ signBit; {
	case s == minusZero:
		return metMinusZero
	case size < infinity:
		return metNumber
	case size > infinity:
		return metNaN
	case s == infinity:
		return metAbove
	}
	return metBelow
}

// Merge adds all that another one is of.
func (a *Acc) Merge(b *Acc) {
	a.finite = a.finite.plus(b.finite)
	a.met |= b.met
	a.count += b.count
}

// Copy tells one like it.
func (a *Acc) Copy() *Acc {
	b := *a
	return &b
}

// Count tells of how many it is.
func (a *Acc) Count() int { return a.count }

// Sum tells the exact sum, rounded once.
func (a *Acc) Sum() uint32 { return a.divided(1) }

// Over tells the exact sum divided by a number, rounded once.
func (a *Acc) Over(n int) (uint32, api.Errno) {
	if n < 1 || n > mostOver {
		return 0, api.ErrSumsNone
	}
	return a.divided(uint64(n)), api.OK
}

// Mean tells the exact mean, rounded once.
func (a *Acc) Mean() (uint32, api.Errno) { return a.Over(a.count) }

func (a *Acc) divided(n uint64) uint32 {
	switch a.met &^ metFinite {
	case 0:
		return a.finiteDivided(n)
	case metAbove:
		return infinity
	case metBelow:
		return infinity | signBit
	}
	return api.Made // a NaN, or both infinities
}

func (a *Acc) finiteDivided(n uint64) uint32 {
	switch {
	case a.finite != number{}:
		return narrow(a.finite.divided(n))
	case a.met == metMinusZero:
		return minusZero
	}
	return 0
}
