package scale

import (
	"halide/api"
	"halide/kernel"
	"halide/sums"
)

// blend: the places that a sample is made of, rising, and the weight of each.
type blend struct{ places, weights []int }

// of tells the sample that is made of those of l at these places.
func (b blend) of(l []uint32) uint32 {
	var room [api.MaxTaps]uint32
	picked := room[:len(b.places)]
	for i, at := range b.places {
		picked[i] = l[at]
	}
	s, _ := sums.Dot(b.weights, picked) // as many weights as samples, and a kernel's are never too great
	return s
}

// line: a row or a column that is to be made: how many samples it has, and what tells the taps of each.
type line struct {
	n    int
	taps func(i int) blend
}

// lineOf tells the line of the places from lo to hi - 1, of arguments that kernel.Taps takes. It asks for the taps once, as one line is made over and over.
func lineOf(kind, from, to, lo, hi int) line {
	n := hi - lo
	all := make([]blend, n)
	for i := range n {
		all[i] = blendOf(kind, from, to, lo+i)
	}
	return line{n, func(i int) blend { return all[i] }}
}

func blendOf(kind, from, to, i int) blend {
	l, _ := kernel.Taps(kind, from, to, i)
	b := blend{make([]int, len(l)), make([]int, len(l))}
	for j, tap := range l {
		b.places[j], b.weights[j] = tap.At, tap.N
	}
	return b
}

// of makes the line of the samples of another one.
func (m line) of(l []uint32) []uint32 {
	told := make([]uint32, m.n)
	for i := range m.n {
		told[i] = m.taps(i).of(l)
	}
	return told
}

// span tells the least place of all taps, and one more than the greatest one.
func (m line) span() (first, end int) {
	first = api.MaxSide
	for i := range m.n {
		places := m.taps(i).places
		first, end = min(first, places[0]), max(end, places[len(places)-1]+1)
	}
	return first, end
}
