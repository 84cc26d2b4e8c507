package kernel_test

import (
	"iter"
	"math"
	"slices"
	"testing"

	"halide/api"
	"halide/kernel"
)

func allSizes() [][2]int {
	return [][2]int{{1, 1}, {15, 1}, {3, 2}, {2, 4}, {7, 7}, {30, 2}, {5, 40}, {1, 1024}, {1024, 69}, {1024, 1024}}
}

// checkAll: that an iterator gives the taps of each place up to end, in order.
func checkAll(t *testing.T, seq iter.Seq2[int, []api.Tap], kind, from, to, end int) {
	t.Helper()
	n := 0
	for i, l := range seq {
		want, e := kernel.Taps(kind, from, to, i)
		if i != n || e != api.OK || !slices.Equal(l, want) {
			t.Fatalf("All(%d, %d, %d): %d with %v behind %d places, want %v, %d", kind, from, to, i, l, n, want, e)
		}
		n++
		if n == end {
			break
		}
	}
	if n != end {
		t.Fatalf("All(%d, %d, %d) gives %d places, want %d", kind, from, to, n, end)
	}
}

func TestP9_3All(t *testing.T) {
	for _, kind := range kinds() {
		for _, z := range allSizes() {
			seq := kernel.All(kind, z[0], z[1])
			checkAll(t, seq, kind, z[0], z[1], z[1])
			checkAll(t, seq, kind, z[0], z[1], 1) // left early
			checkAll(t, seq, kind, z[0], z[1], (z[1]+1)/2)
			checkAll(t, seq, kind, z[0], z[1], z[1]) // and again
		}
	}
}

// Once left, it gives nothing any more.
func TestP9_3Left(t *testing.T) {
	for _, kind := range kinds() {
		for _, at := range []int{1, 2, 4} {
			asked := 0
			kernel.All(kind, 6, 4)(func(int, []api.Tap) bool { asked++; return asked < at })
			if asked != at {
				t.Fatalf("left at the place %d it was asked %d times", at, asked)
			}
		}
	}
}

func TestP9_3WhileItIsGoneThrough(t *testing.T) {
	for _, kind := range kinds() {
		seq := kernel.All(kind, 9, 6)
		outer := 0
		for i, l := range seq {
			checkAll(t, seq, kind, 9, 6, 6)
			checkAll(t, seq, kind, 9, 6, 3)
			want, _ := kernel.Taps(kind, 9, 6, i)
			if i != outer || !slices.Equal(l, want) {
				t.Fatalf("the outer one gives %d with %v", i, l)
			}
			outer++
		}
		if outer != 6 {
			t.Fatalf("the outer one gives %d places", outer)
		}
	}
}

func TestP9_3Refused(t *testing.T) {
	var l [][3]int
	for _, kind := range wrongKinds() {
		l = append(l, [3]int{kind, 4, 2}, [3]int{kind, 1, 1}, [3]int{kind, 0, 3})
	}
	for _, kind := range kinds() {
		for _, side := range wrongSides() {
			l = append(l, [3]int{kind, side, 3}, [3]int{kind, 3, side}, [3]int{kind, side, side})
		}
		l = append(l, [3]int{kind, 16, 1}, [3]int{kind, 31, 2}, [3]int{kind, 1024, 68}, [3]int{kind, math.MaxInt, math.MaxInt})
	}
	for _, c := range l {
		seq := kernel.All(c[0], c[1], c[2])
		if seq == nil {
			t.Fatalf("All%v is nil", c)
		}
		for i, taps := range seq {
			t.Fatalf("All%v gives %d with %v", c, i, taps)
		}
	}
}
