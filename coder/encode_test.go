package coder_test

import (
	"fmt"
	"math"
	"strings"
	"testing"

	"halide/api"
	"halide/coder"
)

// checkSpelled: that a list stands as its own words say, bit by bit.
func checkSpelled(t *testing.T, what string, l []uint32, text string) {
	t.Helper()
	b, e := coder.Encode(l)
	checkBytes(t, "Encode of "+what, b, e, packed(text))
	n, e := coder.Cost(l)
	checkCost(t, "Cost of "+what, n, e, len(text))
}

const ones24 = "111111111111111111111111"

// Of first numbers: k is 4.
func TestP17_2FirstNumber(t *testing.T) {
	for _, c := range []struct {
		z    uint32
		want string
	}{
		{0, "00000"}, {1, "00001"}, {15, "01111"}, {16, "100000"}, {17, "100001"}, {31, "101111"}, {32, "1100000"},
		{367, "1111111111111111111111" + "01111"},
		{368, "11111111111111111111111" + "00000"},
		{383, "11111111111111111111111" + "01111"},
		{384, ones24 + "00000000000000000000000110000000"},
		{385, ones24 + "00000000000000000000000110000001"},
		{0x80000001, ones24 + "10000000000000000000000000000001"},
		{math.MaxUint32, ones24 + "11111111111111111111111111111111"},
	} {
		checkSpelled(t, fmt.Sprint(c.z), ofFolds(c.z), c.want)
	}
}

// A first number chooses the second one's k, as count 2 times 2^k is held against 16 more than it.
func TestP17_2EachK(t *testing.T) {
	for k := 4; k <= 31; k++ {
		just := uint32(1)<<k - 16 + 1<<k
		for _, c := range []struct {
			first uint32
			k     int
		}{
			{just, k}, {just + 1, min(k+1, 31)}, {just - 1, k},
		} {
			ahead := spellTold(c.first, 4)
			for _, z := range edges() {
				checkSpelled(t, fmt.Sprint(c.first, z), ofFolds(c.first, z), ahead+spellTold(z, c.k))
			}
		}
	}
}

// What 2^31 times the count doesn't come to has a k of 31 too.
func TestP17_2GreatSums(t *testing.T) {
	l := allOf(500, 1<<31) // their Folds: 2^32 - 1
	want := ones24 + strings.Repeat("1", 32)
	for range 499 {
		want += "10" + strings.Repeat("1", 31)
	}
	checkSpelled(t, "the greatest numbers", l, want)
}

// Noughts: k is 4 of the first one, 3 of 2, 2 of 4, 1 of 8, then 0.
func TestP17_2Noughts(t *testing.T) {
	for _, c := range []struct{ n, want int }{{1, 5}, {2, 9}, {3, 13}, {4, 16}, {7, 25}, {8, 27}, {15, 41}, {16, 42}, {63, 89}, {64, 90}, {1000, 1026}, {65536, 65562}} {
		l := allOf(c.n, 0)
		n, e := coder.Cost(l)
		checkCost(t, fmt.Sprint("Cost of noughts: ", c.n), n, e, c.want)
		b, e := coder.Encode(l)
		checkBytes(t, fmt.Sprint("Encode of noughts: ", c.n), b, e, make([]byte, (c.want+7)/8))
	}
}

// halved: 63 numbers whose Folds sum to that, so that behind them the sum is that and 16, and the count is 64.
func halved(sum uint32) []uint32 {
	l := make([]uint32, 63)
	l[0] = sum
	return ofFolds(l...)
}

// At 64 the sum is halved, rounded down, and the count is 32; what was ahead is weighed less from there on.
func TestP17_2Halving(t *testing.T) {
	for _, c := range []struct {
		what string
		sum  uint32
		last []uint32
		want []int // bits
	}{
		{"65 / 2 is 32: k is 0", 49, []uint32{0}, []int{1}},
		{"66 / 2 is 33: k is 1", 50, []uint32{0}, []int{2}},
		{"64 / 2 is 32: k is 0", 48, []uint32{0}, []int{1}},
		{"33 of 33, then 34 of 34, then 36 of 35", 48, []uint32{1, 1, 2, 0}, []int{2, 2, 3, 2}},
		{"129 / 2 is 64: k is 1", 113, []uint32{0}, []int{2}},
		{"130 / 2 is 65: k is 2", 114, []uint32{0, 0}, []int{3, 2}},
		{"16 / 2 is 8, and 8 + 25 of 33 is 33", 0, []uint32{23, 2, 0, 1}, []int{24, 3, 1, 2}},
	} {
		ahead := must(coder.Cost(halved(c.sum)))
		last := ofFolds(c.last...)
		for i := range last {
			n, e := coder.Cost(append(halved(c.sum), last[:i+1]...))
			checkCost(t, fmt.Sprint(c.what, ": ", i), n-ahead, e, c.want[i])
			ahead = n
		}
	}
}

// Of noughts alone the sum is 8 behind 63 of them, and halved behind each 32 more: 1 behind 159, 0 behind 191.
func TestP17_2HalvedAgain(t *testing.T) {
	for _, c := range []struct{ noughts, want int }{{63, 2}, {95, 2}, {127, 2}, {159, 2}, {191, 1}, {223, 1}, {32*1000 + 31, 1}} {
		ahead := append(allOf(c.noughts, 0), ofFolds(33)...) // behind it the count is 33, and the sum is 33 more
		n, e := coder.Cost(append(ahead, 0))
		checkCost(t, fmt.Sprint("behind noughts: ", c.noughts), n-must(coder.Cost(ahead)), e, c.want)
	}
}

func checkSpelledAsTold(t *testing.T, l []uint32) {
	t.Helper()
	want, cost := encodeTold(l)
	b, e := coder.Encode(l)
	checkBytes(t, fmt.Sprint("Encode of ", few(l)), b, e, want)
	n, e := coder.Cost(l)
	checkCost(t, fmt.Sprint("Cost of ", few(l)), n, e, cost)
}

func TestP17_3Lists(t *testing.T) {
	for _, l := range lists(173) {
		checkSpelledAsTold(t, l)
	}
}

func TestP17_3LongLists(t *testing.T) {
	for _, number := range kinds(1730) {
		checkSpelledAsTold(t, listed(api.MaxArea, number))
	}
}

// Behind the last bit: bits 0, up to a whole byte, and no byte more.
func TestP17_3LastByte(t *testing.T) {
	for n := range 60 {
		checkSpelledAsTold(t, allOf(n, 0))
		checkSpelledAsTold(t, allOf(n, 1))
		checkSpelledAsTold(t, allOf(n, 3))
	}
	checkSpelled(t, "of no numbers", nil, "")
	checkSpelled(t, "of no numbers", []uint32{}, "")
	checkSpelled(t, "a whole byte", ofFolds(63), "11101111")
}

func TestP17_3Many(t *testing.T) {
	for _, n := range []int{65537, 65538, 70000, 131072, 1 << 20} {
		for _, d := range []uint32{0, 1 << 31} {
			l := allOf(n, d)
			b, e := coder.Encode(l)
			checkNone(t, fmt.Sprint("Encode of numbers: ", n), b, e, api.ErrCoderMany)
			if got, e := coder.Cost(l); got != 0 || e != api.ErrCoderMany {
				t.Errorf("Cost of %d numbers: %d, %d", n, got, e)
			}
		}
	}
}
