package kernel_test

import (
	"slices"
	"testing"

	"halide/api"
	"halide/kernel"
)

// spoil overwrites a list and the spare room behind it.
func spoil[T any](l []T, with T) {
	l = l[:cap(l)]
	for i := range l {
		l[i] = with
	}
}

func TestP9_1HandedInStaysAndAnsweredIsNew(t *testing.T) {
	for _, w := range [][]int{{1, 1, 1}, {-9, 111, 29, -3}, {7}, {0, 0, 5}, repeated(3, 64), {1, -1}, {most + 1, 2}, {}, repeated(1, 65)} {
		room := append(append([]int{-77, -78}, w...), -79, -80, -81)
		then := slices.Clone(room)
		first, e := kernel.Share(room[2 : 2+len(w)])
		kept := slices.Clone(first)
		second, f := kernel.Share(room[2 : 2+len(w)])
		if e != f || !slices.Equal(first, second) {
			t.Fatalf("Share of %v: asked twice it tells two things", w)
		}
		spoil(second, -1)
		if !slices.Equal(room, then) || !slices.Equal(first, kept) {
			t.Fatalf("Share of %v: an answer shares memory", w)
		}
		spoil(room, -2)
		if !slices.Equal(first, kept) {
			t.Fatalf("Share of %v: what was handed in is kept", w)
		}
	}
}

func TestP9_4AnsweredIsNew(t *testing.T) {
	for _, call := range []func(r int) ([]int, api.Errno){kernel.Binomial, kernel.Flat} {
		for r := 0; r <= 8; r++ {
			first, _ := call(r)
			kept := slices.Clone(first)
			second, _ := call(r)
			spoil(second, -1)
			third, _ := call(r)
			if !slices.Equal(first, kept) || !slices.Equal(third, kept) {
				t.Fatalf("of %d: an answer shares memory", r)
			}
		}
	}
}

func TestP9_2AnsweredIsNew(t *testing.T) {
	for _, kind := range kinds() {
		for _, z := range allSizes() {
			first, _ := kernel.Taps(kind, z[0], z[1], z[1]/2)
			kept := slices.Clone(first)
			second, _ := kernel.Taps(kind, z[0], z[1], z[1]/2)
			spoil(second, api.Tap{At: -1, N: -1})
			third, _ := kernel.Taps(kind, z[0], z[1], z[1]/2)
			if !slices.Equal(first, kept) || !slices.Equal(third, kept) {
				t.Fatalf("Taps(%d, %v): an answer shares memory", kind, z)
			}
		}
	}
}

// Lists of one going through stay, whatever is done with the others; what is done with one is not seen in a later going through.
func TestP9_3AnsweredIsNew(t *testing.T) {
	for _, kind := range kinds() {
		seq := kernel.All(kind, 9, 12)
		var lists [][]api.Tap
		for i, l := range seq {
			lists = append(lists, l)
			if i%2 == 1 {
				spoil(l, api.Tap{At: -1, N: -1})
			}
		}
		for i, l := range lists {
			want := tapsTold(kind, 9, 12, i)
			if i%2 == 0 && !slices.Equal(l, want) {
				t.Fatalf("All(%d, 9, 12): the list of %d is touched: %v", kind, i, l)
			}
		}
		checkAll(t, seq, kind, 9, 12, 12)
	}
}
