package stat_test

import (
	"math"
	"math/big"
	"slices"
	"sort"
	"testing"

	"halide/api"
	"halide/stat"
)

// What the chapter says of each call, word by word, of arguments that are right; sums by whole numbers.

// told: all that a stat tells.
type told struct {
	count, nans   int
	histogram     []int
	least, last   uint32
	ends          api.Errno
	sum, mean     uint32
	meanOf        api.Errno
	numbersOfBits int
}

// statTold: of a stat of these samples.
func statTold(bits int, l []uint32) told {
	w := told{count: len(l), histogram: make([]int, 1<<bits), numbersOfBits: bits}
	var keys []int
	for _, s := range l {
		w.histogram[classTold(s, bits)]++
		if isNaN(s) {
			w.nans++
		} else {
			keys = append(keys, key(s))
		}
	}
	if len(keys) == 0 {
		w.ends = api.ErrStatNone
	} else {
		w.least, w.last = ofKey(slices.Min(keys)), ofKey(slices.Max(keys))
	}
	w.sum = exactTold(l, 1)
	if len(l) == 0 {
		w.meanOf = api.ErrStatNone
	} else {
		w.mean = exactTold(l, int64(len(l)))
	}
	return w
}

func classTold(s uint32, bits int) int { return key(s) / (1 << (32 - bits)) }

// unitsOf: how many times 2^-149 a finite sample is, read from its bits.
func unitsOf(s uint32) *big.Int {
	n, e := int64(s&(1<<23-1)), uint(s>>23&255)
	if e > 0 {
		n |= 1 << 23
		e--
	}
	x := new(big.Int).Lsh(big.NewInt(n), e)
	if s&sign != 0 {
		x.Neg(x)
	}
	return x
}

// exactTold: the exact sum divided by n, rounded once.
func exactTold(l []uint32, n int64) uint32 {
	anyNaN, above, below, allMinus := false, false, false, len(l) > 0
	sum := new(big.Int)
	for _, s := range l {
		anyNaN = anyNaN || isNaN(s)
		above = above || s == infinity
		below = below || s == infinity|sign
		allMinus = allMinus && s == minusZero
		if isFinite(s) {
			sum.Add(sum, unitsOf(s))
		}
	}
	switch {
	case anyNaN || above && below:
		return made
	case above:
		return infinity
	case below:
		return infinity | sign
	case allMinus:
		return minusZero
	}
	under := new(big.Int).Lsh(big.NewInt(n), 149)
	f, _ := new(big.Rat).SetFrac(sum, under).Float32()
	return math.Float32bits(f)
}

// ask: all that a stat tells.
func ask(s *stat.Stat) told {
	w := told{count: s.Count(), nans: s.NaNs(), histogram: s.Histogram(), sum: s.Sum()}
	w.least, w.last, w.ends = s.Ends()
	w.mean, w.meanOf = s.Mean()
	for 1<<w.numbersOfBits < len(w.histogram) {
		w.numbersOfBits++
	}
	return w
}

func isSameTold(a, b told) bool {
	return slices.Equal(a.histogram, b.histogram) && a.count == b.count && a.nans == b.nans && a.least == b.least && a.last == b.last && a.ends == b.ends && a.sum == b.sum && a.mean == b.mean && a.meanOf == b.meanOf && a.numbersOfBits == b.numbersOfBits
}

// short: what an error may show of it.
func (w told) short() told {
	w.histogram = w.histogram[:min(len(w.histogram), 16)]
	return w
}

// holdStat: that a stat tells what one of these samples tells.
func holdStat(t *testing.T, what string, s *stat.Stat, bits int, l []uint32) {
	t.Helper()
	checkTold(t, what, ask(s), statTold(bits, l), l)
}

func checkTold(t *testing.T, what string, got, want told, l []uint32) {
	t.Helper()
	if !isSameTold(got, want) {
		t.Fatalf("%s: of %d samples %08X: %v, want %v", what, len(l), few(l), got.short(), want.short())
	}
}

// cropTold: the samples of r.
func cropTold(p api.Plane, r api.Rect) []uint32 {
	var l []uint32
	for y := r.Y0; y < r.Y1; y++ {
		for x := r.X0; x < r.X1; x++ {
			l = append(l, p.S[y*p.W+x])
		}
	}
	return l
}

// sortedTold: by key.
func sortedTold(l []uint32) []uint32 {
	var keys []int
	for _, s := range l {
		keys = append(keys, key(s))
	}
	sort.Ints(keys)
	var w []uint32
	for _, k := range keys {
		w = append(w, ofKey(k))
	}
	return w
}

// levelTold: m and n are counted by class, a quotient of whole numbers rounded to binary64 ahead of binary32.
func levelTold(p api.Plane, bits int) api.Plane {
	n, counts := 0, map[int]int{}
	for _, s := range p.S {
		if !isNaN(s) {
			n++
			counts[classTold(s, bits)]++
		}
	}
	atMost := func(class int) int {
		m := 0
		for c, k := range counts {
			if c <= class {
				m += k
			}
		}
		return m
	}
	w := planeOf(p.W, p.H)
	known := map[int]uint32{}
	for _, s := range p.S {
		class := classTold(s, bits)
		if isNaN(s) {
			w.S = append(w.S, s)
			continue
		}
		if _, ok := known[class]; !ok {
			f, _ := big.NewRat(int64(atMost(class)), int64(n)).Float64()
			known[class] = math.Float32bits(float32(f))
		}
		w.S = append(w.S, known[class])
	}
	return w
}
