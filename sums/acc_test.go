package sums_test

import (
	"math"
	"math/big"
	"testing"

	"halide/api"
	"halide/sums"
)

func accOf(l ...uint32) *sums.Acc {
	a := sums.New()
	a.Add(l...)
	return a
}

func checkOver(t *testing.T, a *sums.Acc, n int, want uint32, of []uint32) {
	t.Helper()
	if s, e := a.Over(n); s != want || e != api.OK {
		t.Fatalf("Over(%d) of %d samples %08X: %08X, %d, want %08X", n, len(of), few(of), s, e, want)
	}
}

// holdAcc: all that an Acc of these samples tells.
func holdAcc(t *testing.T, a *sums.Acc, l []uint32) {
	t.Helper()
	if a.Count() != len(l) {
		t.Fatalf("Count of %08X: %d, want %d", few(l), a.Count(), len(l))
	}
	check(t, "Sum", a.Sum(), exactTold(l, 1), l)
	for _, n := range []int{1, 2, 3, 10, 65536, 1<<24 + 1, math.MaxInt32, math.MaxUint32} {
		checkOver(t, a, n, exactTold(l, int64(n)), l)
	}
	s, e := a.Mean()
	if len(l) == 0 {
		if s != 0 || e != api.ErrSumsNone {
			t.Fatalf("Mean of none: %08X, %d", s, e)
		}
		return
	}
	if want := exactTold(l, int64(len(l))); s != want || e != api.OK {
		t.Fatalf("Mean of %d samples %08X: %08X, %d, want %08X", len(l), few(l), s, e, want)
	}
}

func TestP3_6AccOfLists(t *testing.T) {
	for _, l := range append(lists(), longLists()...) {
		holdAcc(t, accOf(l...), l)
	}
}

func TestP3_6AccOfNone(t *testing.T) {
	holdAcc(t, sums.New(), nil)
	a := sums.New()
	a.Add()
	a.Add([]uint32{}...)
	a.Merge(sums.New())
	a.Merge(a)
	holdAcc(t, a, nil)
	holdAcc(t, a.Copy(), nil)
}

func TestP3_6OverRefuses(t *testing.T) {
	for _, l := range [][]uint32{nil, {one}, {made}, {infinity}, {minusZero}} {
		a := accOf(l...)
		for _, n := range []int{0, -1, -2, math.MinInt, 1 << 32, 1<<32 + 1, 1 << 33, math.MaxInt} {
			if s, e := a.Over(n); s != 0 || e != api.ErrSumsNone {
				t.Errorf("Over(%d) of %08X: %08X, %d", n, l, s, e)
			}
		}
		holdAcc(t, a, l)
	}
}

func TestP3_6OverTold(t *testing.T) {
	const most = math.MaxUint32
	for _, c := range []struct {
		l    []uint32
		n    int
		want uint32
	}{
		{nil, 1, plusZero},
		{nil, most, plusZero},
		{[]uint32{minusZero}, 1, minusZero},
		{[]uint32{minusZero, minusZero}, most, minusZero},
		{[]uint32{minusZero, plusZero}, 7, plusZero},
		{[]uint32{one, one | sign}, 7, plusZero},
		{[]uint32{0xFFC00009}, most, made},
		{[]uint32{infinity, infinity | sign}, 2, made},
		{[]uint32{infinity, greatest | sign}, most, infinity},
		{[]uint32{infinity | sign}, 1, infinity | sign},
		{[]uint32{one}, 1, one},
		{[]uint32{one}, 3, 0x3EAAAAAB},
		{[]uint32{one}, most, 0x2F800000},
		{[]uint32{one | sign}, most, 0x2F800000 | sign},
		{[]uint32{leastSmall}, 1, leastSmall},
		{[]uint32{leastSmall}, 2, plusZero}, // a tie
		{[]uint32{leastSmall}, 3, plusZero},
		{[]uint32{leastSmall}, most, plusZero},
		{[]uint32{leastSmall | sign}, 2, minusZero},
		{[]uint32{leastSmall | sign}, most, minusZero}, // other than 0: the sign is kept
		{[]uint32{2}, 3, leastSmall},
		{[]uint32{3}, 2, 2}, // a tie, the other way
		{[]uint32{5}, 2, 2},
		{[]uint32{4}, 7, leastSmall}, // just above a half
		{[]uint32{3}, 7, plusZero},   // just below it
		{[]uint32{leastSmall, leastSmall}, 4, plusZero},
		{[]uint32{0x00FFFFFF}, 2, leastNormal}, // a tie, up to the normal ones
		{[]uint32{greatest, greatest, greatest}, 3, greatest},
		{[]uint32{greatest, greatest, halfGreatest}, 2, greatest},
		{[]uint32{greatest, greatest, halfGreatest, halfGreatest}, 2, infinity}, // half-way to beyond the greatest one
		{[]uint32{greatest, greatest, halfGreatest, halfGreatest, leastSmall | sign}, 2, greatest},
		{[]uint32{greatest | sign, greatest | sign}, 1, infinity | sign},
		{[]uint32{greatest}, most, 0x6F7FFFFF},
	} {
		checkOver(t, accOf(c.l...), c.n, c.want, c.l)
	}
}

// The quotient lies half-way between two samples next to each other, or the least sample's part beside that.
func TestP3_6OverHalves(t *testing.T) {
	next := chance(7)
	for i := range 400 {
		s, n := kept(next(), 40, 190)&^uint32(sign), int(next())%1000000*2+2
		switch i % 4 {
		case 0:
			s %= leastNormal // subnormal: half of the last bit is below what a sample tells
		case 1:
			s, n = kept(s, 250, 4), n%40+2 // the sum is beyond the greatest one
		}
		middle := new(big.Rat).Add(valueOf(s), valueOf(s+1))
		middle.Mul(middle, new(big.Rat).SetFrac64(int64(n), 2))
		even := s + s%2
		for _, c := range []struct {
			more []uint32
			want uint32
		}{{nil, even}, {[]uint32{leastSmall}, s + 1}, {[]uint32{leastSmall | sign}, s}} {
			l := append(partsOf(middle), c.more...)
			checkOver(t, accOf(l...), n, c.want, l)
			for i := range l {
				l[i] ^= sign
			}
			checkOver(t, accOf(l...), n, c.want|sign, l)
		}
	}
}

func TestP3_6OverByChance(t *testing.T) {
	next := chance(8)
	for _, l := range finiteLists(9, 60) {
		a := accOf(l...)
		for range 20 {
			n := max(1, int(next()>>(next()>>27)))
			checkOver(t, a, n, exactTold(l, int64(n)), l)
		}
	}
}

func joined(l ...[]uint32) []uint32 {
	var all []uint32
	for _, m := range l {
		all = append(all, m...)
	}
	return all
}

func TestP3_6Merge(t *testing.T) {
	all := [][]uint32{nil, {plusZero}, {minusZero}, {minusZero, minusZero}, {one, tiny}, {one | sign}, {greatest, greatest}, {greatest | sign}, {leastSmall | sign}, {infinity}, {infinity | sign, one}, {made}, {0xFFC00009, one}}
	all = append(all, finiteLists(10, 12)...)
	for _, l := range all {
		for _, m := range all {
			a, b := accOf(l...), accOf(m...)
			a.Merge(b)
			holdAcc(t, a, joined(l, m))
			holdAcc(t, b, m)
			a.Add(tiny)
			b.Add(greatest)
			holdAcc(t, a, joined(l, m, []uint32{tiny}))
			holdAcc(t, b, joined(m, []uint32{greatest}))
		}
		a := accOf(l...)
		a.Merge(a)
		holdAcc(t, a, joined(l, l))
		a.Merge(a)
		holdAcc(t, a, joined(l, l, l, l))
	}
}

func TestP3_6CopiesAreApart(t *testing.T) {
	for _, l := range append(finiteLists(11, 10), nil, []uint32{minusZero}, []uint32{infinity}, []uint32{leastNaN}) {
		a := accOf(l...)
		b := a.Copy()
		a.Add(greatest, one|sign)
		holdAcc(t, b, l)
		b.Add(infinity)
		holdAcc(t, a, joined(l, []uint32{greatest, one | sign}))
		holdAcc(t, b, joined(l, []uint32{infinity}))
		c := b.Copy()
		b.Merge(a)
		holdAcc(t, c, joined(l, []uint32{infinity}))
	}
}

func TestP3_6NewOnesAreApart(t *testing.T) {
	a, b := sums.New(), sums.New()
	a.Add(one, minusZero)
	holdAcc(t, b, nil)
	b.Add(made)
	holdAcc(t, a, []uint32{one, minusZero})
}

// As many samples as an Acc may come to be of: doubled, and one more, over and over.
func TestP3_6AsManyAsMayBe(t *testing.T) {
	for _, s := range bothSigns(plusZero, leastSmall, greatestSmall, one, one+1, greatest) {
		one, a := accOf(s), accOf(s)
		for range 30 {
			a.Merge(a)
			a.Merge(one)
		}
		n := a.Count()
		if n != math.MaxInt32 {
			t.Fatalf("Count: %d", n)
		}
		if m, e := a.Mean(); m != s || e != api.OK {
			t.Errorf("Mean of %08X: %08X, %d", s, m, e)
		}
		if s == minusZero {
			check(t, "Sum", a.Sum(), s, []uint32{s})
			continue
		}
		x := new(big.Rat).SetInt64(int64(n))
		x.Mul(x, valueOf(s))
		check(t, "Sum", a.Sum(), rounded(x), []uint32{s})
		x.Quo(x, new(big.Rat).SetInt64(math.MaxUint32))
		checkOver(t, a, math.MaxUint32, rounded(x), []uint32{s})
	}
}
