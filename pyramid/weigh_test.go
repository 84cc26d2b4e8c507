package pyramid_test

import (
	"testing"

	"halide/api"
	"halide/pyramid"
)

// checkFive: the middle one of a row and of a column of five is made of all five in order, by 1, 4, 6, 4, 1.
func checkFive(t *testing.T, l [5]uint32, want uint32) {
	t.Helper()
	for _, p := range []api.Plane{rowOf(l[:]...), columnOf(l[:]...)} { // a line of one place weighs one sample alone, which stays as it is
		got, e := pyramid.Reduce(p)
		if e != api.OK || got.W != (p.W+1)/2 || got.H != (p.H+1)/2 || len(got.S) != 3 || got.S[1] != want {
			t.Errorf("Reduce(%08X): %08X, %d, want %08X in the middle", p.S, got.S, e, want)
		}
	}
}

// checkThree: the third sample of twice three is made of all three in order, by 1, 6, 1.
func checkThree(t *testing.T, a, b, c, want uint32) {
	t.Helper()
	for _, n := range []int{5, 6} {
		checkExpandedAt(t, rowOf(a, b, c), n, 1, 2, want)
		checkExpandedAt(t, columnOf(a, b, c), 1, n, 2, want)
	}
}

// checkTwo: the second sample of twice two is made of both in order, by 1, 1.
func checkTwo(t *testing.T, a, b, want uint32) {
	t.Helper()
	for _, n := range []int{3, 4} {
		checkExpandedAt(t, rowOf(a, b), n, 1, 1, want)
		checkExpandedAt(t, columnOf(a, b), 1, n, 1, want)
	}
}

func checkExpandedAt(t *testing.T, p api.Plane, w, h, i int, want uint32) {
	t.Helper()
	got, e := pyramid.Expand(p, w, h)
	if e != api.OK || got.W != w || got.H != h || len(got.S) != w*h || got.S[i] != want {
		t.Errorf("Expand(%08X, %d, %d): %08X, %d, want %08X at %d", p.S, w, h, got.S, e, want, i)
	}
}

// From the first to the last: 2^60 and multiples of it, and what is lost beside them.
func TestP14_1Order(t *testing.T) {
	const great, fourTimes, sixTimes = 0x5D800000, 0x5E800000, 0x5EC00000
	checkFive(t, [5]uint32{0, great, 0, great | sign, one}, 0x3D800000) // 1/16
	checkFive(t, [5]uint32{one, great, 0, great | sign, 0}, 0)
	checkFive(t, [5]uint32{0, great, one, great | sign, 0}, 0)
	checkFive(t, [5]uint32{fourTimes, great | sign, 0, one, 0}, quarter)
	checkFive(t, [5]uint32{fourTimes, great | sign, one, 0, 0}, 0x3EC00000) // 6/16
	checkFive(t, [5]uint32{fourTimes, 0, one, great | sign, 0}, 0)
	checkFive(t, [5]uint32{fourTimes, one, 0, great | sign, 0}, 0)
	checkFive(t, [5]uint32{0, one, 0, great | sign, fourTimes}, 0)
	checkThree(t, sixTimes, great|sign, one, 0x3E000000) // 1/8
	checkThree(t, one, great|sign, sixTimes, 0)
	checkThree(t, sixTimes, one, sixTimes|sign, 0)
}

// Each sum is rounded to binary64, the quotient to binary32.
func TestP14_1Rounding(t *testing.T) {
	const tiny, lost50, lost49, seen48 = 0x0D800000, 0x26800000, 0x27000000, 0x27800000 // 2 to -100, -50, -49, -48
	checkFive(t, [5]uint32{two + 4, one, one, one, 0}, one)                             // half-way from 1 to the next one: the even one
	checkFive(t, [5]uint32{two + 5, one, one, one, 0}, one+1)
	checkFive(t, [5]uint32{two + 3, one, one, one, 0}, one)
	checkFive(t, [5]uint32{two + 4, one, one, one, tiny}, one) // what is lost in binary64 can't tell
	checkFive(t, [5]uint32{tiny, one, one, one, two + 4}, one)
	checkFive(t, [5]uint32{two + 4, one, one, one, lost49}, one) // a tie in binary64
	checkFive(t, [5]uint32{lost49, one, one, one, two + 4}, one)
	checkFive(t, [5]uint32{two + 4, one, one, one, seen48}, one+1) // this isn't lost
	checkFive(t, [5]uint32{seen48, one, one, one, two + 4}, one+1)
	checkThree(t, two+2, one, 0, one)
	checkThree(t, two+3, one, 0, one+1)
	checkThree(t, two+1, one, 0, one)
	checkThree(t, two+2, one, tiny, one)
	checkThree(t, tiny, one, two+2, one)
	checkThree(t, two+2, one, lost50, one)
	checkThree(t, two+2, one, lost49, one+1) // of a lesser sum this isn't lost
	checkThree(t, lost49, one, two+2, one+1)
	checkTwo(t, one, one+1, one)
	checkTwo(t, one+1, one+2, one+2)
	checkTwo(t, two, 0x0D800000, one)
}

func TestP14_1SmallSums(t *testing.T) {
	checkFive(t, [5]uint32{8, 0, 0, 0, 0}, 0) // a tie
	checkFive(t, [5]uint32{9, 0, 0, 0, 0}, leastSmall)
	checkFive(t, [5]uint32{0, 0, 0, 0, 9}, leastSmall)
	checkFive(t, [5]uint32{0, 2, 0, 0, 0}, 0) // a tie
	checkFive(t, [5]uint32{0, 0, 0, 6, 0}, 2) // a tie
	checkFive(t, [5]uint32{0, 0, leastSmall, 0, 0}, 0)
	checkFive(t, [5]uint32{0, leastSmall, leastSmall, 0, 0}, leastSmall)
	checkFive(t, [5]uint32{8 | sign, 0, 0, 0, 0}, minusZero)
	checkThree(t, 0, leastSmall, 0, leastSmall)
	checkThree(t, 2, 0, 2, 0) // a tie
	checkThree(t, 0, 2, 0, 2) // a tie
	checkThree(t, leastSmall|sign, 0, 0, minusZero)
	checkTwo(t, leastSmall, 0, 0) // a tie
	checkTwo(t, leastSmall, 2, 2) // a tie
	checkTwo(t, leastSmall|sign, 0, minusZero)
	checkTwo(t, 0x007FFFFF, leastNormal, leastNormal) // a tie
}

// Sums are wider than samples.
func TestP14_1GreatSums(t *testing.T) {
	checkFive(t, [5]uint32{greatest, greatest, greatest, greatest, greatest}, greatest)
	checkFive(t, [5]uint32{greatest | sign, greatest, greatest, greatest, greatest | sign}, 0x7F3FFFFF)
	checkFive(t, [5]uint32{greatest, greatest | sign, greatest, greatest | sign, greatest}, 0)
	checkThree(t, greatest, greatest, greatest, greatest)
	checkThree(t, greatest|sign, greatest, greatest|sign, 0x7EFFFFFF)
	checkTwo(t, greatest, greatest, greatest)
	checkTwo(t, greatest, greatest|sign, 0)
	checkTwo(t, greatest, greatest-1, greatest-1) // a tie
	checkTwo(t, greatest|sign, greatest|sign, greatest|sign)
}

func TestP14_1Signs(t *testing.T) {
	checkFive(t, [5]uint32{minusZero, minusZero, minusZero, minusZero, minusZero}, minusZero)
	checkThree(t, minusZero, minusZero, minusZero, minusZero)
	checkTwo(t, minusZero, minusZero, minusZero)
	for i := range 5 {
		l := [5]uint32{minusZero, minusZero, minusZero, minusZero, minusZero}
		l[i] = 0
		checkFive(t, l, 0)
	}
	checkFive(t, [5]uint32{one, one | sign, one, one | sign, one}, 0)
	checkThree(t, 0, minusZero, minusZero, 0)
	checkThree(t, minusZero, 0, minusZero, 0)
	checkThree(t, minusZero, minusZero, 0, 0)
	checkThree(t, three, one|sign, three, 0)
	checkTwo(t, 0, minusZero, 0)
	checkTwo(t, minusZero, 0, 0)
	checkTwo(t, one, one|sign, 0)
	checkTwo(t, one|sign, one, 0)
}

func TestP14_1NoNumbers(t *testing.T) {
	for _, s := range nans() {
		for i := range 5 {
			l := [5]uint32{one, infinity, one, greatest, 0}
			l[i] = s
			checkFive(t, l, made)
		}
		checkThree(t, s, one, one, made)
		checkThree(t, one, s, infinity, made)
		checkThree(t, one, one, s, made)
		checkTwo(t, s, one, made)
		checkTwo(t, infinity, s, made)
	}
	for _, minus := range []uint32{0, sign} {
		for i := range 5 {
			l := [5]uint32{greatest, greatest | sign, one, greatest, 0}
			l[i] = infinity ^ minus
			checkFive(t, l, infinity^minus)
			l[(i+2)%5] = infinity ^ minus ^ sign
			checkFive(t, l, made)
		}
		checkThree(t, infinity^minus, greatest|sign, greatest, infinity^minus)
		checkThree(t, one, infinity^minus, infinity^minus, infinity^minus)
		checkThree(t, infinity^minus, one, infinity^minus^sign, made)
		checkTwo(t, infinity^minus, greatest, infinity^minus)
		checkTwo(t, greatest|sign, infinity^minus, infinity^minus)
		checkTwo(t, infinity^minus, infinity^minus^sign, made)
	}
}
