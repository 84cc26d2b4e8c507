package rank_test

import (
	"slices"
	"testing"

	"halide/api"
	"halide/rank"
)

const guard = 0x55AA55AA

// inRoom: the same samples in the middle of a longer list.
func inRoom(l []uint32) (inner, room []uint32) {
	room = append(append([]uint32{guard, guard}, l...), guard, guard, guard)
	return room[2 : 2+len(l)], room
}

// spoil overwrites a list and the spare room behind it.
func spoil(l []uint32) {
	l = l[:cap(l)]
	for i := range l {
		l[i] = 0xDEADBEEF
	}
}

// checkMemory: what is handed in stays, its spare room too; no answer is touched by what is done with another one, or with that.
func checkMemory(t *testing.T, what string, l []uint32, call func(l []uint32) []uint32) {
	t.Helper()
	handed, room := inRoom(l)
	then := slices.Clone(room)
	first := call(handed)
	kept := slices.Clone(first)
	second := call(handed)
	if !slices.Equal(first, second) {
		t.Fatalf("%s: asked twice it tells two things", what)
	}
	if !slices.Equal(room, then) {
		t.Fatalf("%s: what was handed in has changed", what)
	}
	spoil(second)
	if !slices.Equal(room, then) || !slices.Equal(first, kept) {
		t.Fatalf("%s: an answer shares memory", what)
	}
	if !slices.Equal(call(handed), kept) {
		t.Fatalf("%s: what is done with an answer is seen in a later one", what)
	}
	spoil(room)
	if !slices.Equal(first, kept) {
		t.Fatalf("%s: what was handed in is kept", what)
	}
}

func TestP12_1Memory(t *testing.T) {
	for _, l := range [][]uint32{nil, {one}, {one, two}, {two, one}, edges(), sortedTold(edges())} {
		checkMemory(t, "Sorted", l, rank.Sorted)
	}
}

func TestP12_2Memory(t *testing.T) {
	eachWindow(func(border, w, h int) {
		for _, p := range append(somePlanes(5, 4), allOf(1, 1, one), allOf(3, 3, 0)) {
			k := w * h / 2
			of := func(s []uint32) api.Plane { return planeOf(p.W, p.H, s...) }
			checkMemory(t, "Plane", p.S, func(l []uint32) []uint32 { return must(rank.Plane(of(l), border, w, h, k)).S })
			checkMemory(t, "Median", p.S, func(l []uint32) []uint32 { return must(rank.Median(of(l), border, w, h)).S })
			checkMemory(t, "Erode", p.S, func(l []uint32) []uint32 { return must(rank.Erode(of(l), border, w, h)).S })
			checkMemory(t, "Dilate", p.S, func(l []uint32) []uint32 { return must(rank.Dilate(of(l), border, w, h)).S })
			checkMemory(t, "Part", p.S, func(l []uint32) []uint32 {
				return must(rank.Part(of(l), border, w, h, k, api.Rect{X1: p.W, Y1: p.H})).S
			})
			checkMemory(t, "At", p.S, func(l []uint32) []uint32 { return []uint32{must(rank.At(of(l), border, w, h, k, 0, 0))} })
		}
	})
}

// What is asked ahead of a call is not seen in its answer.
func TestP12_2AnswersHangOnArgumentsAlone(t *testing.T) {
	p := somePlanes(7, 6)[0]
	want := must(rank.Plane(p, api.Mirror, 3, 2, 1))
	eachWindow(func(border, w, h int) {
		must(rank.Dilate(allOf(5, 9, 0xFFFFFFFF), border, w, h))
		must(rank.Erode(allOf(9, 5, 0x7FFFFFFF), border, w, h))
		got, e := rank.Plane(p, api.Mirror, 3, 2, 1)
		checkPlane(t, "Plane", got, e, want)
	})
}
