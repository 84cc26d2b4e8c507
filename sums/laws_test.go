package sums_test

import (
	"math/big"
	"math/rand"
	"slices"
	"testing"

	"halide/api"
	"halide/arith"
	"halide/sums"
)

// mixedLists: lists with noughts, infinities and NaNs among them, too.
func mixedLists() [][]uint32 {
	all := append(finiteLists(31, 60), nil, []uint32{minusZero, minusZero}, []uint32{plusZero, minusZero})
	for _, s := range []uint32{infinity, infinity | sign, 0xFFC00009} {
		all = append(all, []uint32{one, s, one | sign, tiny}, []uint32{s, greatest, minusZero, infinity})
	}
	return append(all, longLists()...)
}

// tellsLike: whether two Accs tell the same.
func tellsLike(t *testing.T, a, b *sums.Acc, l []uint32) {
	t.Helper()
	check(t, "Sum", a.Sum(), b.Sum(), l)
	x, e := a.Mean()
	y, f := b.Mean()
	if a.Count() != b.Count() || x != y || e != f {
		t.Fatalf("%d samples %08X: %d, %08X, %d and %d, %08X, %d", len(l), few(l), a.Count(), x, e, b.Count(), y, f)
	}
	for _, n := range []int{1, 3, 1<<32 - 1} {
		x, _ := a.Over(n)
		checkOver(t, b, n, x, l)
	}
}

func TestP3_7AnyOrderAnyParts(t *testing.T) {
	r := rand.New(rand.NewSource(37))
	for _, l := range mixedLists() {
		sum, whole := sums.Exact(l), accOf(l...)
		check(t, "Sum", whole.Sum(), sum, l)
		for range 4 {
			m := slices.Clone(l)
			r.Shuffle(len(m), func(i, j int) { m[i], m[j] = m[j], m[i] })
			check(t, "Exact, shuffled", sums.Exact(m), sum, l)
			tellsLike(t, whole, accInParts(r, m), l)
		}
		slices.Sort(l)
		check(t, "Exact, sorted", sums.Exact(l), sum, l)
		slices.Reverse(l)
		check(t, "Exact, reversed", sums.Exact(l), sum, l)
	}
}

// accInParts: some added, some merged, in parts of any length.
func accInParts(r *rand.Rand, l []uint32) *sums.Acc {
	a := sums.New()
	for len(l) > 0 {
		n := r.Intn(len(l) + 1)
		b := accOf(l[:n]...)
		switch r.Intn(3) {
		case 0:
			a.Add(l[:n]...)
		case 1:
			a.Merge(b)
		default:
			b.Merge(a)
			a = b.Copy()
		}
		l = l[n:]
	}
	return a
}

func TestP3_7SampleAndItsNegative(t *testing.T) {
	r := rand.New(rand.NewSource(38))
	for _, l := range mixedLists() {
		want := sums.Exact(l)
		if want == minusZero {
			want = plusZero
		}
		for _, s := range finites() {
			m := slices.Insert(slices.Clone(l), r.Intn(len(l)+1), s)
			m = slices.Insert(m, r.Intn(len(m)+1), s^sign)
			check(t, "Exact with a sample and its negative", sums.Exact(m), want, m)
			if len(l) > 10000 {
				break
			}
		}
	}
}

// sizesOf: A: the exact sum of the sizes.
func sizesOf(l []uint32) *big.Rat {
	all := slices.Clone(l)
	for i := range all {
		all[i] &^= sign
	}
	return sumOf(all)
}

func times(factors ...*big.Rat) *big.Rat {
	x := big.NewRat(1, 1)
	for _, f := range factors {
		x.Mul(x, f)
	}
	return x
}

func checkFar(t *testing.T, call string, got uint32, sum, far *big.Rat, l []uint32) {
	t.Helper()
	off := new(big.Rat).Sub(valueOf(got), sum)
	if off.Abs(off).Cmp(far) > 0 {
		t.Fatalf("%s of %d samples %08X: %08X is too far off", call, len(l), few(l), got)
	}
}

func holdBounds(t *testing.T, l []uint32) {
	t.Helper()
	n := int64(len(l))
	k := int64(0)
	for 1<<k < n {
		k++
	}
	a, sum, u := sizesOf(l), sumOf(l), power(-24)
	if a.Cmp(power(100)) >= 0 || n > 4096 {
		t.Fatalf("nothing is promised of %08X", few(l))
	}
	little := big.NewRat(1001, 1000)
	checkFar(t, "Left", sums.Left(l), sum, times(little, big.NewRat(n-1, 1), u, a), l)
	checkFar(t, "Pairs", sums.Pairs(l), sum, times(little, big.NewRat(k, 1), u, a), l)
	exact := times(u, new(big.Rat).Abs(sum))
	checkFar(t, "Exact", sums.Exact(l), sum, exact.Add(exact, power(-150)), l)
	kahan := times(big.NewRat(201, 100), u, a)
	kahan.Add(kahan, times(big.NewRat(101, 100), big.NewRat(n*n, 1), u, u, a))
	checkFar(t, "Kahan", sums.Kahan(l), sum, kahan, l)
}

func TestP3_8Bounds(t *testing.T) {
	next := chance(39)
	for _, n := range []int{1, 2, 3, 4, 5, 7, 8, 9, 31, 64, 100, 1000, 1023, 1025, 4095, 4096} {
		for _, span := range []struct{ lo, span int }{{0, 1}, {0, 2}, {0, 30}, {127, 1}, {100, 28}, {0, 214}, {213, 1}} {
			l := make([]uint32, n)
			for i := range l {
				l[i] = kept(next(), span.lo, span.span)
			}
			holdBounds(t, l)
			for i := range l {
				l[i] &^= sign // nothing cancels
			}
			holdBounds(t, l)
			slices.Sort(l)
			holdBounds(t, l)
			slices.Reverse(l)
			holdBounds(t, l)
			for i := range l {
				l[i] = l[0] | uint32(i%2)<<31
			}
			holdBounds(t, l)
		}
	}
}

// Each step of Left loses all of a sample that is a half of a last bit.
func TestP3_8BoundsWhereMuchIsLost(t *testing.T) {
	for _, n := range []int{2, 17, 256, 4096} {
		l := make([]uint32, n)
		for i := range l {
			l[i] = tiny
		}
		l[0] = one
		holdBounds(t, l)
		l[n-1] = one | sign
		holdBounds(t, l)
	}
	holdBounds(t, []uint32{plusZero})
	holdBounds(t, []uint32{minusZero, minusZero})
	holdBounds(t, []uint32{leastSmall, leastSmall | sign, leastSmall})
}

// wholeList: whole numbers whose sizes sum to at most, and often to just, 2^24.
func wholeList(r *rand.Rand) []uint32 {
	var l []uint32
	most := 1 + r.Int63n(1<<24)
	for left := int64(1 << 24); left > 0; {
		n := min(left, r.Int63n(most)+r.Int63n(2))
		left -= n
		s := arith.FromInt(n) | r.Uint32()&sign
		l = append(l, s)
		if r.Intn(40) == 0 || len(l) > 20000 {
			break
		}
	}
	return l
}

func holdWhole(t *testing.T, l []uint32) {
	t.Helper()
	sum := sums.Exact(l)
	check(t, "Left of whole numbers", sums.Left(l), sum, l)
	for _, c := range inOrder() {
		if got := c.call(l); !arith.Equal(got, sum) {
			t.Fatalf("%s of whole numbers %08X: %08X, want %08X", c.name, few(l), got, sum)
		}
	}
}

func TestP3_9WholeNumbers(t *testing.T) {
	r := rand.New(rand.NewSource(39))
	for range 2000 {
		holdWhole(t, wholeList(r))
	}
	ones := make([]uint32, 40000)
	for i := range ones {
		ones[i] = one
	}
	for _, l := range [][]uint32{ones, {0x4B7FFFFF, one}, {one, 0x4B7FFFFF}, {0xCB7FFFFF, one | sign}, {0x4B800000}, {minusZero, minusZero}, {minusZero, plusZero}, {one, one | sign, minusZero}, {minusZero}, {plusZero}} {
		holdWhole(t, l)
	}
}

func TestP3_9DotOfOneSampleRepeated(t *testing.T) {
	r := rand.New(rand.NewSource(40))
	for _, s := range finites() {
		for range 100 {
			weights, sum := []int{}, int64(0)
			for left := int64(1 << 28); left > 0 && len(weights) < 100; {
				w := min(left, r.Int63n(1<<(1+r.Intn(28)))+1)
				left -= w
				if r.Intn(3) == 0 {
					w = -w
				}
				weights, sum = append(weights, int(w)), sum+w
			}
			l := slices.Repeat([]uint32{s}, len(weights))
			x := new(big.Rat).SetInt64(sum)
			x.Mul(x, valueOf(s))
			if w, e := sums.Dot64(weights, l); e != api.OK || value64(w).Cmp(x) != 0 {
				t.Fatalf("Dot64(%d, %08X ..): %016X, %d", weights, s, w, e)
			}
		}
	}
}
