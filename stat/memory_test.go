package stat_test

import (
	"slices"
	"testing"

	"halide/api"
	"halide/stat"
)

const guard = 0x55AA55AA

// inRoom: the same plane, its samples in the middle of a longer list.
func inRoom(p api.Plane) (inner api.Plane, room []uint32) {
	room = append(append([]uint32{guard, guard}, p.S...), guard, guard, guard)
	return api.Plane{W: p.W, H: p.H, S: room[2 : 2+len(p.S)]}, room
}

// spoil overwrites a list and the spare room behind it.
func spoil(l []uint32) {
	l = l[:cap(l)]
	for i := range l {
		l[i] = 0xDEADBEEF
	}
}

func spoilNumbers(l []int) {
	l = l[:cap(l)]
	for i := range l {
		l[i] = -7
	}
}

func memoryPlanes() []api.Plane { return append(somePlanes(5, 3), somePlanes(1, 1)...) }

// What is handed in stays as it is, its spare room too, and isn't kept.
func TestP16_2Memory(t *testing.T) {
	for _, p := range memoryPlanes() {
		inner, room := inRoom(p)
		then := slices.Clone(room)
		s := must(stat.New(6))
		for _, r := range append(wrongRects(p.W, p.H), whole(p)) {
			s.Add(inner, r)
		}
		if !slices.Equal(room, then) {
			t.Fatal("Add: what was handed in has changed")
		}
		spoil(room)
		holdStat(t, "Add, when what was handed in has changed", s, 6, p.S)
	}
}

func TestP16_3Memory(t *testing.T) {
	for _, p := range memoryPlanes() {
		for _, bits := range []int{1, 12} {
			s := statOf(t, bits, p)
			c := s.Copy()
			first, second := s.Histogram(), s.Histogram()
			kept := slices.Clone(first)
			spoilNumbers(second)
			if !slices.Equal(first, kept) {
				t.Fatal("two histograms share memory")
			}
			spoilNumbers(first)
			spoilNumbers(c.Histogram())
			holdStat(t, "when its histograms have changed", s, bits, p.S)
			holdStat(t, "its copy", c, bits, p.S)
			told := s.Histogram()
			kept = slices.Clone(told)
			s.Add(p, whole(p))
			s.Merge(s)
			if !slices.Equal(told, kept) {
				t.Fatal("a histogram changes when its stat does")
			}
		}
	}
}

func TestP16_5Memory(t *testing.T) {
	for _, p := range memoryPlanes() {
		inner, room := inRoom(p)
		then := slices.Clone(room)
		for k := range len(p.S) + 1 {
			stat.Rank(inner, k)
			stat.Share(inner, k, len(p.S))
		}
		if !slices.Equal(room, then) {
			t.Fatal("Rank, Share: what was handed in has changed")
		}
	}
}

func TestP16_6Memory(t *testing.T) {
	for _, p := range memoryPlanes() {
		inner, room := inRoom(p)
		then := slices.Clone(room)
		first := must(stat.Level(inner, 8))
		kept := clone(first)
		second := must(stat.Level(inner, 8))
		stat.Level(inner, 13)
		spoil(second.S)
		if !slices.Equal(room, then) || !isSame(first, kept) {
			t.Fatal("Level: an answer shares memory")
		}
		third, e := stat.Level(inner, 8)
		checkPlane(t, "Level, when an answer has changed", third, e, kept)
		spoil(room)
		if !isSame(first, kept) {
			t.Fatal("Level: what was handed in is kept")
		}
	}
}
