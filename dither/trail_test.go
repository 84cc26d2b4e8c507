package dither_test

import (
	"slices"
	"testing"

	"halide/dither"
)

// Left at any point, and gone through again from the beginning.
func TestP13_6LeftAnywhere(t *testing.T) {
	p := somePlanes(4, 3)[0]
	_, _, want := diffuseTold(p, 3)
	trail := dither.Trail(p, 3)
	for end := range want {
		seen := 0
		for i, v := range trail {
			if i != seen || v != want[i] {
				t.Fatalf("left at %d: %d, %v", end, i, v)
			}
			seen++
			if i == end {
				break
			}
		}
		if seen != end+1 {
			t.Fatalf("left at %d: %d places seen", end, seen)
		}
	}
}

// Whoever leaves isn't asked again.
func TestP13_6AskedNoMore(t *testing.T) {
	asked := 0
	dither.Trail(somePlanes(4, 3)[0], 3)(func(int, [3]int) bool {
		asked++
		return asked < 5
	})
	if asked != 5 {
		t.Errorf("asked %d times", asked)
	}
}

func TestP13_6WithinItself(t *testing.T) {
	p := somePlanes(5, 4)[1]
	_, _, want := diffuseTold(p, 4)
	trail := dither.Trail(p, 4)
	outer := 0
	for i, v := range trail {
		if i != outer || v != want[i] {
			t.Fatalf("outer: %d, %v", i, v)
		}
		outer++
		inner := 0
		for j, v := range trail {
			if j != inner || v != want[j] {
				t.Fatalf("inner: %d, %v", j, v)
			}
			if inner++; inner > i {
				break
			}
		}
	}
	if outer != len(want) {
		t.Errorf("%d places of %d", outer, len(want))
	}
}

// Two trails are two, and other calls between change none.
func TestP13_6TwoTrails(t *testing.T) {
	p, q := somePlanes(5, 4)[0], somePlanes(5, 4)[1]
	_, _, wantP := diffuseTold(p, 4)
	_, _, wantQ := diffuseTold(q, 2)
	a, b := dither.Trail(p, 4), dither.Trail(q, 2)
	for i, v := range a {
		for j, u := range b {
			dither.Diffuse(p, 3)
			if v != wantP[i] || u != wantQ[j] {
				t.Fatalf("at %d, %d: %v, %v", i, j, v, u)
			}
		}
	}
}

// What is handed in is neither changed nor kept: what is done with it behind the call isn't seen, in the midst of a going through or ahead of one.
func TestP13_6KeepsNothing(t *testing.T) {
	p := somePlanes(5, 4)[0]
	_, _, want := diffuseTold(p, 4)
	s, room := inRoom(p.S)
	then := slices.Clone(room)
	trail := dither.Trail(planeOf(5, 4, s...), 4)
	for i, v := range trail {
		if v != want[i] {
			t.Fatalf("at %d: %v, want %v", i, v, want[i])
		}
		if i < 7 && !slices.Equal(room, then) {
			t.Fatal("what was handed in has changed")
		}
		if i == 7 {
			spoil(room)
		}
	}
	for i, v := range trail {
		if v != want[i] {
			t.Fatalf("what was handed in is kept: at %d %v, want %v", i, v, want[i])
		}
	}
}
