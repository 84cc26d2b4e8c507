package bits_test

import (
	"math"
	"slices"
	"testing"

	"halide/bits"
)

func TestP1_3KeysOfEdges(t *testing.T) {
	for _, c := range []struct{ s, k uint32 }{
		{0xFFFFFFFF, 0}, {0xFF800001, 0x007FFFFE}, {0xFF800000, 0x007FFFFF}, {0xFF7FFFFF, 0x00800000},
		{0xBF800000, 0x407FFFFF}, {0x80000001, 2147483646}, {minusZero, 2147483647},
		{plusZero, 2147483648}, {leastSmall, 2147483649}, {one, 0xBF800000},
		{greatest, 0xFF7FFFFF}, {infinity, 0xFF800000}, {quietNaN, 4290772992}, {lastNaN, 4294967295},
	} {
		if got := bits.Key(c.s); got != c.k {
			t.Errorf("Key(%08X): %d, want %d", c.s, got, c.k)
		}
		if got := bits.FromKey(c.k); got != c.s {
			t.Errorf("FromKey(%d): %08X, want %08X", c.k, got, c.s)
		}
	}
}

func TestP1_3ClassesStandInOrder(t *testing.T) {
	all := inOrder()
	for i, a := range all {
		for j, b := range all {
			if (bits.Key(a) < bits.Key(b)) != (i < j) {
				t.Errorf("keys of %08X and %08X: %d, %d", a, b, bits.Key(a), bits.Key(b))
			}
		}
	}
}

func TestP1_4NextAndPrevOfEdges(t *testing.T) {
	for _, c := range []struct{ below, above uint32 }{
		{0xFFFFFFFF, 0xFFFFFFFE}, {0xFF800001, 0xFF800000}, {0xFF800000, 0xFF7FFFFF},
		{0x80800000, 0x807FFFFF}, {0x80000001, minusZero}, {minusZero, plusZero}, {plusZero, leastSmall},
		{greatestSmall, leastNormal}, {greatest, infinity}, {infinity, leastNaN}, {0x7FFFFFFE, lastNaN},
	} {
		if got, ok := bits.Next(c.below); got != c.above || !ok {
			t.Errorf("Next(%08X): %08X, %v, want %08X, true", c.below, got, ok, c.above)
		}
		if got, ok := bits.Prev(c.above); got != c.below || !ok {
			t.Errorf("Prev(%08X): %08X, %v, want %08X, true", c.above, got, ok, c.below)
		}
	}
}

func TestP1_4NothingBeyondTheEnds(t *testing.T) {
	if got, ok := bits.Next(lastNaN); got != 0 || ok {
		t.Errorf("Next of the last: %08X, %v", got, ok)
	}
	if got, ok := bits.Prev(lastNaN | sign); got != 0 || ok {
		t.Errorf("Prev of the first: %08X, %v", got, ok)
	}
}

func TestP1_4Apart(t *testing.T) {
	for _, c := range []struct {
		a, b uint32
		want int
	}{
		{minusZero, plusZero, 1}, {plusZero, minusZero, -1}, {one, one, 0}, {leastSmall, plusZero, -1},
		{lastNaN | sign, lastNaN, 1<<32 - 1}, {lastNaN, lastNaN | sign, 1 - 1<<32},
		{infinity | sign, infinity, 4278190081}, {0xBF800000, one, 2130706433},
	} {
		if got := bits.Apart(c.a, c.b); got != c.want {
			t.Errorf("Apart(%08X, %08X): %d, want %d", c.a, c.b, got, c.want)
		}
	}
}

func TestP1_4OfTwoAndBefore(t *testing.T) {
	all := inOrder()
	for i, a := range all {
		for j, b := range all {
			if got := bits.Before(a, b); got != (i < j) {
				t.Errorf("Before(%08X, %08X): %v", a, b, got)
			}
			if got := bits.Least(a, b); got != all[min(i, j)] {
				t.Errorf("Least(%08X, %08X): %08X", a, b, got)
			}
			if got := bits.Greatest(a, b); got != all[max(i, j)] {
				t.Errorf("Greatest(%08X, %08X): %08X", a, b, got)
			}
		}
	}
}

func TestP1_4OfThree(t *testing.T) {
	all := inOrder()
	for i, a := range all {
		for j, b := range all {
			for k, c := range all {
				places := []int{i, j, k}
				slices.Sort(places)
				if got, want := bits.Median(a, b, c), all[places[1]]; got != want {
					t.Fatalf("Median(%08X, %08X, %08X): %08X, want %08X", a, b, c, got, want)
				}
				// The upper end goes ahead of the lower one, where they are the wrong way round.
				if got, want := bits.Between(a, b, c), all[min(max(i, j), k)]; got != want {
					t.Fatalf("Between(%08X, %08X, %08X): %08X, want %08X", a, b, c, got, want)
				}
			}
		}
	}
}

func TestP1_5KeysGoThereAndBack(t *testing.T) {
	for _, x := range sweep() {
		if got := bits.FromKey(bits.Key(x)); got != x {
			t.Fatalf("FromKey(Key(%08X)): %08X", x, got)
		}
		if got := bits.Key(bits.FromKey(x)); got != x {
			t.Fatalf("Key(FromKey(%d)): %d", x, got)
		}
	}
}

func TestP1_5LesserValuesStandAhead(t *testing.T) {
	all := slices.DeleteFunc(sweep(), notANumber)
	checkPair := func(a, b uint32) {
		va, vb := value(a), value(b)
		if va != vb && bits.Before(a, b) != (va < vb) {
			t.Fatalf("Before(%08X, %08X): %v, values %g, %g", a, b, bits.Before(a, b), va, vb)
		}
		if va == vb && a != b && va != 0 {
			t.Fatalf("%08X and %08X are one value", a, b)
		}
	}
	for i, a := range all {
		// The far end, a place in between by a step that shares nothing with the length, the neighbour.
		checkPair(a, all[len(all)-1-i])
		checkPair(a, all[i*7919%len(all)])
		checkPair(a, all[(i+1)%len(all)])
		if next, ok := bits.Next(a); ok && !notANumber(next) {
			checkPair(a, next)
		}
	}
}

func TestP1_5NextAndPrevGoBackAndForth(t *testing.T) {
	for _, s := range sweep() {
		if next, ok := bits.Next(s); ok {
			back, has := bits.Prev(next)
			if back != s || !has || bits.Apart(s, next) != 1 || !bits.Before(s, next) {
				t.Fatalf("Next(%08X): %08X, back %08X, %v", s, next, back, has)
			}
		} else if s != lastNaN {
			t.Fatalf("Next(%08X): none", s)
		}
		if prev, ok := bits.Prev(s); ok {
			forth, has := bits.Next(prev)
			if forth != s || !has || bits.Apart(prev, s) != 1 || !bits.Before(prev, s) {
				t.Fatalf("Prev(%08X): %08X, forth %08X, %v", s, prev, forth, has)
			}
		} else if s != lastNaN|sign {
			t.Fatalf("Prev(%08X): none", s)
		}
	}
}

func TestP1_5NextIsTheNextNumber(t *testing.T) {
	for _, s := range slices.DeleteFunc(sweep(), notANumber) {
		if s == infinity || s == minusZero || s == leastSmall|sign {
			continue // of the noughts the library knows but one
		}
		want := math.Float32bits(math.Nextafter32(math.Float32frombits(s), math.MaxFloat32))
		if s == greatest {
			want = infinity
		}
		if got, ok := bits.Next(s); got != want || !ok {
			t.Fatalf("Next(%08X): %08X, %v, want %08X", s, got, ok, want)
		}
	}
}

func triples() [][3]uint32 {
	all := sweep()
	var out [][3]uint32
	for i, a := range all {
		out = append(out, [3]uint32{a, all[i*7919%len(all)], all[i*104729%len(all)]})
	}
	return out
}

func TestP1_7MedianIsOneOfThreeInAnyOrder(t *testing.T) {
	for _, x := range triples() {
		a, b, c := x[0], x[1], x[2]
		m := bits.Median(a, b, c)
		if m != a && m != b && m != c {
			t.Fatalf("Median(%08X, %08X, %08X): %08X is none of them", a, b, c, m)
		}
		if want := bits.Greatest(bits.Least(a, b), bits.Least(bits.Greatest(a, b), c)); m != want {
			t.Fatalf("Median(%08X, %08X, %08X): %08X, want %08X", a, b, c, m, want)
		}
		for _, other := range []uint32{bits.Median(a, c, b), bits.Median(b, a, c), bits.Median(b, c, a), bits.Median(c, a, b), bits.Median(c, b, a)} {
			if other != m {
				t.Fatalf("Median of %08X, %08X, %08X: %08X and %08X", a, b, c, m, other)
			}
		}
	}
}

func TestP1_7BetweenKeepsWhatIsBetween(t *testing.T) {
	for _, x := range triples() {
		slices.SortFunc(x[:], func(a, b uint32) int { return bits.Apart(b, a) })
		lo, s, hi := x[0], x[1], x[2]
		if bits.Before(s, lo) || bits.Before(hi, s) {
			t.Fatalf("%08X, %08X, %08X do not stand in order", lo, s, hi)
		}
		for _, c := range []struct{ s, want uint32 }{{s, s}, {lo, lo}, {hi, hi}} {
			if got := bits.Between(c.s, lo, hi); got != c.want {
				t.Fatalf("Between(%08X, %08X, %08X): %08X", c.s, lo, hi, got)
			}
		}
		if got := bits.Between(lo, s, hi); got != s {
			t.Fatalf("Between(%08X, %08X, %08X): %08X, want the lower end", lo, s, hi, got)
		}
		if got := bits.Between(hi, lo, s); got != s {
			t.Fatalf("Between(%08X, %08X, %08X): %08X, want the upper end", hi, lo, s, got)
		}
	}
}
