package stat_test

import (
	"slices"
	"testing"

	"halide/api"
	"halide/stat"
)

func TestP16_3Histogram(t *testing.T) {
	for bits := 1; bits <= 12; bits++ {
		shift := 32 - bits
		for class := range 1 << bits {
			first, last := ofKey(class<<shift), ofKey((class+1)<<shift-1)
			h := statOf(t, bits, rowOf(first, last, last)).Histogram()
			for i, n := range h {
				if want := 3; len(h) != 1<<bits || i == class && n != want || i != class && n != 0 {
					t.Fatalf("%d bits, class %d: %d of %d numbers: %d", bits, class, i, len(h), n)
				}
			}
		}
	}
}

// Each class once: the NaNs' classes too.
func TestP16_3HistogramOfAll(t *testing.T) {
	for bits := 1; bits <= 12; bits++ {
		p := planeOf(1<<bits, 1)
		if bits > 10 {
			p.W, p.H = 1024, 1<<(bits-10)
		}
		for class := range 1 << bits {
			p.S = append(p.S, ofKey(class<<(32-bits)+1))
		}
		h := statOf(t, bits, p).Histogram()
		if len(h) != 1<<bits || slices.Min(h) != 1 || slices.Max(h) != 1 {
			t.Errorf("%d bits: %d numbers", bits, len(h))
		}
	}
}

func TestP16_3NaNs(t *testing.T) {
	for _, c := range []struct {
		l    []uint32
		want int
	}{
		{[]uint32{infinity, infinity | sign, 0}, 0},
		{[]uint32{infinity + 1, 0}, 1},
		{nans(), len(nans())},
		{edges(), len(nans())},
	} {
		s := statOf(t, 6, rowOf(c.l...))
		if s.NaNs() != c.want || s.Count() != len(c.l) {
			t.Errorf("of %08X: %d, Count %d", c.l, s.NaNs(), s.Count())
		}
	}
}

func TestP16_3Ends(t *testing.T) {
	for _, c := range []struct {
		l           []uint32
		least, last uint32
	}{
		{[]uint32{0}, 0, 0},
		{[]uint32{minusZero}, minusZero, minusZero},
		{[]uint32{0, minusZero}, minusZero, 0},
		{[]uint32{minusZero, 0}, minusZero, 0},
		{[]uint32{infinity}, infinity, infinity},
		{[]uint32{infinity | sign}, infinity | sign, infinity | sign},
		{[]uint32{greatest, infinity, infinity | sign, greatest | sign}, infinity | sign, infinity},
		{[]uint32{leastSmall | sign, leastSmall}, leastSmall | sign, leastSmall},
		{[]uint32{one | sign, two | sign}, two | sign, one | sign},
		{[]uint32{made, one, made | sign, two}, one, two},
		{append(nans(), 0), 0, 0},
		{append(nans(), infinity), infinity, infinity},
		{append(nans(), infinity|sign), infinity | sign, infinity | sign},
	} {
		for _, l := range [][]uint32{c.l, reversed(c.l)} {
			checkEnds(t, statOf(t, 3, rowOf(l...)), c.least, c.last)
		}
	}
}

func reversed(l []uint32) []uint32 {
	l = slices.Clone(l)
	slices.Reverse(l)
	return l
}

func checkNoEnds(t *testing.T, s *stat.Stat) {
	t.Helper()
	if a, b, e := s.Ends(); a != 0 || b != 0 || e != api.ErrStatNone {
		t.Errorf("Ends: %08X, %08X, %d", a, b, e)
	}
}

func TestP16_3NoEnds(t *testing.T) {
	for bits := 1; bits <= 12; bits++ {
		s := must(stat.New(bits))
		checkNoEnds(t, s)
		for _, n := range nans() {
			checkNoEnds(t, statOf(t, bits, rowOf(n)))
			s.Add(rowOf(n, n), api.Rect{X1: 2, Y1: 1})
			checkNoEnds(t, s)
			checkNoEnds(t, s.Copy())
		}
		s.Merge(s)
		checkNoEnds(t, s)
	}
}

// Each two edges, as ends, with NaNs about them.
func TestP16_3EndsOfTwo(t *testing.T) {
	for _, a := range append(finites(), infinities()...) {
		for _, b := range append(finites(), infinities()...) {
			least, last := a, b
			if key(b) < key(a) {
				least, last = b, a
			}
			checkEnds(t, statOf(t, 1, rowOf(made, a, b, made|sign)), least, last)
		}
	}
}

func TestP16_4SumAndMean(t *testing.T) {
	for _, c := range []struct {
		what      string
		l         []uint32
		sum, mean uint32
	}{
		{"a nought", []uint32{0}, 0, 0},
		{"below 0", []uint32{minusZero}, minusZero, minusZero},
		{"many of them", []uint32{minusZero, minusZero, minusZero}, minusZero, minusZero},
		{"both noughts", []uint32{minusZero, 0}, 0, 0},
		{"nothing is left", []uint32{one, one | sign, minusZero}, 0, 0},
		{"an infinity", []uint32{infinity, greatest | sign, one}, infinity, infinity},
		{"the other one", []uint32{one, infinity | sign, greatest}, infinity | sign, infinity | sign},
		{"both", []uint32{infinity, one, infinity | sign}, made, made},
		{"a NaN", []uint32{one, infinity + 1 | sign}, made, made},
		{"a NaN and an infinity", []uint32{infinity, 0x7FFFFFFF}, made, made},
		{"a third", []uint32{one, 0, 0}, one, 0x3EAAAAAB},
		{"below that", []uint32{one | sign, 0, 0}, one | sign, 0x3EAAAAAB | sign},
		{"rounded once", []uint32{one, power(-24), leastSmall}, one + 1, 0x3EAAAAAB},
		{"a tie", []uint32{one, power(-24)}, one, half},
		{"too great, its mean isn't", []uint32{greatest, greatest}, infinity, greatest},
		{"below that", []uint32{greatest | sign, greatest | sign, greatest | sign}, infinity | sign, greatest | sign},
		{"a mean between two", []uint32{one, one + 1}, two, one},
		{"between the next two", []uint32{one + 1, one + 2}, two + 2, one + 2},
		{"a half of the least", []uint32{leastSmall, 0}, leastSmall, 0},
		{"three halves", []uint32{leastSmall, 2}, 3, 2},
		{"a half, below 0", []uint32{leastSmall | sign, 0}, leastSmall | sign, minusZero},
		{"two thirds", []uint32{leastSmall, leastSmall, 0}, 2, leastSmall},
		{"what a step would lose", []uint32{power(100), one, power(100) | sign}, one, 0x3EAAAAAB},
	} {
		for _, l := range [][]uint32{c.l, reversed(c.l)} {
			s := statOf(t, 2, rowOf(l...))
			checkSample(t, "Sum: "+c.what, s.Sum(), api.OK, c.sum)
			mean, e := s.Mean()
			checkSample(t, "Mean: "+c.what, mean, e, c.mean)
		}
	}
}

func TestP16_4NoMean(t *testing.T) {
	for bits := 1; bits <= 12; bits++ {
		s := must(stat.New(bits))
		mean, e := s.Mean()
		checkNoSample(t, "Mean of none", mean, e, api.ErrStatNone)
		checkSample(t, "Sum of none", s.Sum(), api.OK, 0)
		s.Merge(s)
		mean, e = s.Copy().Mean()
		checkNoSample(t, "Mean of a copy of none", mean, e, api.ErrStatNone)
	}
}

func TestP16_4OfEdges(t *testing.T) {
	all := edges()
	for _, a := range all {
		for _, b := range all {
			l := []uint32{a, b, a ^ sign}
			holdStat(t, "of edges", statOf(t, 1, rowOf(l...)), 1, l)
			l = []uint32{a, b}
			holdStat(t, "of two edges", statOf(t, 2, rowOf(l...)), 2, l)
		}
	}
}

func TestP16_4ByChance(t *testing.T) {
	next := chance(164)
	for i := range 1000 {
		p := filled(1+upTo(40, next), 1+upTo(3, next), func() uint32 { return finiteByChance(next) &^ (1<<upTo(24, next) - 1) })
		for j := range p.S {
			if j > 0 && next()%3 == 0 {
				p.S[j] = p.S[upTo(j, next)] ^ sign
			}
		}
		holdStat(t, "by chance", statOf(t, 1+i%12, p), 1+i%12, p.S)
	}
}
