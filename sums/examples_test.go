package sums_test

import (
	"slices"
	"testing"

	"halide/api"
	"halide/sums"
)

// The chapter's section 'Examples'.

func TestExamplesOfSums(t *testing.T) {
	l := []uint32{0x3F800000, 0x33800000, 0x33800000}
	great := []uint32{0x7F000000, 0x7F000000, 0xFF000000}
	check(t, "Left", sums.Left(l), 0x3F800000, l)
	check(t, "Pairs", sums.Pairs(l), 0x3F800001, l)
	check(t, "Exact", sums.Exact(l), 0x3F800001, l)
	check(t, "Kahan", sums.Kahan(l), 0x3F800001, l)
	check64(t, "Left64", sums.Left64(l), 0x3FF0000020000000, l)
	check(t, "Left", sums.Left(great), 0x7F800000, great)
	check(t, "Exact", sums.Exact(great), 0x7F000000, great)
	for _, c := range []struct {
		l    []uint32
		want uint32
	}{
		{[]uint32{0x7F800000, 0xFF800000}, 0x7FC00000},
		{[]uint32{0x80000000, 0x80000000}, 0x80000000},
		{[]uint32{0x80000000, 0}, 0},
		{nil, 0},
	} {
		check(t, "Exact", sums.Exact(c.l), c.want, c.l)
	}
}

func TestExamplesOfDot(t *testing.T) {
	if w, e := sums.Dot64([]int{1, -1}, []uint32{0x3F800000, 0x33800000}); w != 0x3FEFFFFFE0000000 || e != api.OK {
		t.Errorf("%016X, %d", w, e)
	}
	if s, e := sums.Dot([]int{32768, 32768}, []uint32{0x3F800000, 0x40400000}); s != 0x40000000 || e != api.OK {
		t.Errorf("%08X, %d", s, e)
	}
	if w, e := sums.Dot64([]int{1}, []uint32{}); w != 0 || e != api.ErrSumsShort {
		t.Errorf("%016X, %d", w, e)
	}
	if w, e := sums.Dot64([]int{0}, []uint32{0x7F800000}); w != madeWide || e != api.OK {
		t.Errorf("%016X, %d", w, e)
	}
}

func TestExamplesOfAcc(t *testing.T) {
	a := accOf(0x3F800000, 0x3F800000, 1)
	if m, e := a.Mean(); a.Sum() != 0x40000000 || m != 0x3F2AAAAB || e != api.OK {
		t.Errorf("%08X, %08X, %d", a.Sum(), m, e)
	}
	if m, e := sums.New().Mean(); m != 0 || e != api.ErrSumsNone {
		t.Errorf("of none: %08X, %d", m, e)
	}
}

// DOC.md, 'What holds everywhere', 3: what is handed in stays as it is, the room behind it too, and isn't kept.
func TestHandedInStays(t *testing.T) {
	room := append(slices.Repeat([]uint32{one, 0xFFC00009, minusZero, tiny}, 5), infinity, leastNaN)
	weights := slices.Repeat([]int{1, 0, -3, 65536}, 6)
	roomThen, weightsThen := slices.Clone(room), slices.Clone(weights)
	l, w := room[:20], weights[:20]
	for _, c := range inOrder() {
		c.call(l)
	}
	sums.Left64(l)
	sums.Exact(l)
	sums.Dot64(w, l)
	sums.Dot(w, l)
	a := accOf(l...)
	a.Mean()
	if !slices.Equal(room, roomThen) || !slices.Equal(weights, weightsThen) {
		t.Error("a list has changed")
	}
	b := sums.New()
	b.Add(room[:1]...)
	room[0] = greatest
	check(t, "Sum, its list changed later", b.Sum(), one, nil)
}
