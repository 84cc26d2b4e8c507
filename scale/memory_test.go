package scale_test

import (
	"slices"
	"testing"

	"halide/api"
	"halide/scale"
)

const guard = 0x55AA55AA

// inRoom: the same samples in the middle of a longer list.
func inRoom(l []uint32) (inner, room []uint32) {
	room = append(append([]uint32{guard, guard}, l...), guard, guard, guard)
	return room[2 : 2+len(l)], room
}

// spoil overwrites a list and the spare room behind it.
func spoil(l []uint32) {
	l = l[:cap(l)]
	for i := range l {
		l[i] = 0xDEADBEEF
	}
}

// checkMemory: what is handed in stays, its spare room too; no answer is touched by what is done with another one, or with that.
func checkMemory(t *testing.T, what string, handed []uint32, call func(l []uint32) ([]uint32, api.Errno)) {
	t.Helper()
	inner, room := inRoom(handed)
	then := slices.Clone(room)
	first, e := call(inner)
	kept := slices.Clone(first)
	second, f := call(inner)
	if e != f || !slices.Equal(first, second) {
		t.Fatalf("%s: asked twice it tells two things", what)
	}
	if !slices.Equal(room, then) {
		t.Fatalf("%s: what was handed in has changed", what)
	}
	spoil(second)
	if !slices.Equal(room, then) || !slices.Equal(first, kept) {
		t.Fatalf("%s: an answer shares memory", what)
	}
	third, _ := call(inner)
	if !slices.Equal(third, kept) {
		t.Fatalf("%s: what is done with an answer is seen in a later one", what)
	}
	spoil(room)
	if !slices.Equal(first, kept) {
		t.Fatalf("%s: what was handed in is kept", what)
	}
}

func TestP10_1Memory(t *testing.T) {
	for _, kind := range append(kinds(), 0) {
		for _, to := range []int{1, 3, 6, 13, 0, 1025} { // of its own length, too
			for _, n := range []int{6, 1, 16} {
				next := chance(uint64(n))
				l := rowOf(n, func() uint32 { return edges()[next()%uint32(len(edges()))] })
				checkMemory(t, "Row", l, func(l []uint32) ([]uint32, api.Errno) { return scale.Row(l, kind, to) })
			}
		}
	}
}

func TestP10_2Memory(t *testing.T) {
	for _, kind := range append(kinds(), 0) {
		for _, z := range [][2]int{{1, 1}, {5, 4}, {3, 9}, {9, 3}, {0, 4}, {5, 1025}} {
			for _, p := range somePlanes(5, 4) {
				checkMemory(t, "Plane", p.S, func(l []uint32) ([]uint32, api.Errno) {
					q, e := scale.Plane(api.Plane{W: 5, H: 4, S: l}, kind, z[0], z[1])
					return q.S, e
				})
			}
		}
	}
}

func TestP10_3Memory(t *testing.T) {
	for _, kind := range append(kinds(), 0) {
		for _, z := range [][2]int{{5, 4}, {3, 9}, {9, 3}} {
			for _, r := range append(someRects(z[0], z[1]), rectOf(0, 0, 99, 1)) {
				p := somePlanes(5, 4)[2]
				checkMemory(t, "Part", p.S, func(l []uint32) ([]uint32, api.Errno) {
					q, e := scale.Part(api.Plane{W: 5, H: 4, S: l}, kind, z[0], z[1], r)
					return q.S, e
				})
			}
		}
	}
}

// What is asked ahead of a call is not seen in its answer.
func TestP10_2AnswersHangOnArgumentsAlone(t *testing.T) {
	p := somePlanes(7, 6)[0]
	want := must(scale.Plane(p, api.Cubic, 5, 9))
	for _, kind := range kinds() {
		for _, b := range someBrings() {
			must(scale.Plane(allOf(b.fromW, b.fromH, infinity), kind, b.w, b.h))
		}
	}
	got, e := scale.Plane(p, api.Cubic, 5, 9)
	checkPlane(t, "Plane", got, e, want)
}
