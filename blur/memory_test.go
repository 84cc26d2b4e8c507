package blur_test

import (
	"slices"
	"testing"

	"halide/api"
	"halide/blur"
)

const guard = 0x55AA55AA

// inRoom: the same samples in the middle of a longer list.
func inRoom(l []uint32) (inner, room []uint32) {
	room = append(append([]uint32{guard, guard}, l...), guard, guard, guard)
	return room[2 : 2+len(l)], room
}

// spoil overwrites a list and the spare room behind it.
func spoil(l []uint32) {
	l = l[:cap(l)]
	for i := range l {
		l[i] = 0xDEADBEEF
	}
}

// checkMemory: what is handed in stays, its spare room too; no answer is touched by what is done with another one, or with that.
func checkMemory(t *testing.T, what string, p api.Plane, call func(p api.Plane) (api.Plane, api.Errno)) {
	t.Helper()
	inner, room := inRoom(p.S)
	then := slices.Clone(room)
	handed := api.Plane{W: p.W, H: p.H, S: inner}
	first, e := call(handed)
	kept := clone(first)
	second, f := call(handed)
	if e != f || !isSame(first, second) {
		t.Fatalf("%s: asked twice it tells two things", what)
	}
	if !slices.Equal(room, then) {
		t.Fatalf("%s: what was handed in has changed", what)
	}
	spoil(second.S)
	if !slices.Equal(room, then) || !isSame(first, kept) {
		t.Fatalf("%s: an answer shares memory", what)
	}
	if third, _ := call(handed); !isSame(third, kept) {
		t.Fatalf("%s: what is done with an answer is seen in a later one", what)
	}
	spoil(room)
	if !isSame(first, kept) {
		t.Fatalf("%s: what was handed in is kept", what)
	}
}

func TestP11_3Memory(t *testing.T) {
	for _, kind := range append(kinds(), 0) {
		for _, radius := range []int{0, 1, 7, 8} {
			for _, border := range append(borders(), 0) {
				for _, p := range append(somePlanes(5, 4), allOf(1, 1, one), allOf(3, 3, 0)) {
					checkMemory(t, "Blur", p, func(p api.Plane) (api.Plane, api.Errno) { return blur.Blur(p, kind, radius, border) })
					checkMemory(t, "Sharpen", p, func(p api.Plane) (api.Plane, api.Errno) { return blur.Sharpen(p, kind, radius, border, two) })
				}
			}
		}
	}
}

func TestP11_4Memory(t *testing.T) {
	for _, border := range append(borders(), 0) {
		for _, p := range append(somePlanes(5, 4), allOf(1, 1, one), allOf(3, 3, 0)) {
			checkMemory(t, "Gradient", p, func(p api.Plane) (api.Plane, api.Errno) {
				across, _, e := blur.Gradient(p, border)
				return across, e
			})
			checkMemory(t, "Gradient", p, func(p api.Plane) (api.Plane, api.Errno) {
				_, down, e := blur.Gradient(p, border)
				return down, e
			})
		}
	}
}

func TestP11_4PlanesShareNothing(t *testing.T) {
	for _, p := range append(somePlanes(5, 4), allOf(1, 1, one), allOf(3, 3, 0)) {
		across, down, _ := blur.Gradient(p, api.Mirror)
		kept := clone(down)
		spoil(across.S)
		if !isSame(down, kept) {
			t.Fatalf("the second plane shares memory with the first one")
		}
		across, down, _ = blur.Gradient(p, api.Mirror)
		kept = clone(across)
		spoil(down.S)
		if !isSame(across, kept) {
			t.Fatalf("the first plane shares memory with the second one")
		}
	}
}

// What is asked ahead of a call is not seen in its answer.
func TestP11_3AnswersHangOnArgumentsAlone(t *testing.T) {
	p := somePlanes(7, 6)[0]
	want := must(blur.Blur(p, api.Binomial, 3, api.Mirror))
	eachBlur(func(kind, radius, border int) {
		must(blur.Sharpen(allOf(5, 9, infinity), kind, radius, border, made))
	})
	got, e := blur.Blur(p, api.Binomial, 3, api.Mirror)
	checkPlane(t, "Blur", got, e, want)
}
