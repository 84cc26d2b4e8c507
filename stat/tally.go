package stat

import (
	"slices"

	"halide/bits"
)

const (
	mostBits = 12
	keyBits  = 32
)

func isBits(n int) bool { return 1 <= n && n <= mostBits }

// tally: how many samples have each class for some bits.
type tally struct {
	bits   int
	counts []int
}

func emptyTally(bits int) tally { return tally{bits, make([]int, 1<<bits)} }

func (t tally) class(s uint32) int { return int(bits.Key(s) >> (keyBits - t.bits)) }

func (t tally) add(l []uint32) {
	for _, s := range l {
		t.counts[t.class(s)]++
	}
}

// merge adds one of as many bits, maybe t itself.
func (t tally) merge(o tally) {
	for i, n := range o.counts {
		t.counts[i] += n
	}
}

func (t tally) clone() tally { return tally{t.bits, slices.Clone(t.counts)} }

// upTo tells of each class how many samples have it or a lesser one.
func (t tally) upTo() []int {
	told := make([]int, len(t.counts))
	sum := 0
	for class, n := range t.counts {
		sum += n
		told[class] = sum
	}
	return told
}
