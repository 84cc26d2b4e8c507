package dither_test

import (
	"slices"
	"testing"

	"halide/api"
	"halide/dither"
)

const guard = 0x55AA55AA

// inRoom: the same samples in the middle of a longer list.
func inRoom(l []uint32) (inner, room []uint32) {
	room = append(append([]uint32{guard, guard}, l...), guard, guard, guard)
	return room[2 : 2+len(l)], room
}

// spoil overwrites a list and the spare room behind it.
func spoil(l []uint32) {
	l = l[:cap(l)]
	for i := range l {
		l[i] = 0xDEADBEEF
	}
}

// checkMemory: what is handed in stays, its spare room too; no answer is touched by what is done with another one, or with that.
func checkMemory(t *testing.T, what string, l []uint32, call func(l []uint32) []uint32) {
	t.Helper()
	handed, room := inRoom(l)
	then := slices.Clone(room)
	first := call(handed)
	kept := slices.Clone(first)
	second := call(handed)
	if !slices.Equal(first, second) {
		t.Fatalf("%s: asked twice it tells two things", what)
	}
	if !slices.Equal(room, then) {
		t.Fatalf("%s: what was handed in has changed", what)
	}
	spoil(second)
	if !slices.Equal(room, then) || !slices.Equal(first, kept) {
		t.Fatalf("%s: an answer shares memory", what)
	}
	if !slices.Equal(call(handed), kept) {
		t.Fatalf("%s: what is done with an answer is seen in a later one", what)
	}
	spoil(room)
	if !slices.Equal(first, kept) {
		t.Fatalf("%s: what was handed in is kept", what)
	}
}

func TestP13_4Memory(t *testing.T) {
	for _, z := range someSizes() {
		for _, p := range append(somePlanes(z[0], z[1]), allOf(z[0], z[1], one), allOf(z[0], z[1], 0)) {
			for _, side := range sides() {
				checkMemory(t, "Ordered", p.S, func(l []uint32) []uint32 {
					return must(dither.Ordered(api.Plane{W: p.W, H: p.H, S: l}, 3, side, 1, 2)).S
				})
			}
		}
	}
}

func TestP13_5Memory(t *testing.T) {
	for _, z := range someSizes() {
		for _, p := range append(somePlanes(z[0], z[1]), allOf(z[0], z[1], one), allOf(z[0], z[1], 0)) {
			checkMemory(t, "Diffuse", p.S, func(l []uint32) []uint32 {
				q, _, _ := dither.Diffuse(api.Plane{W: p.W, H: p.H, S: l}, 3)
				return q.S
			})
		}
	}
}

// Rows of a table share nothing: not with each other, not with another table's, their spare room neither.
func TestP13_3Memory(t *testing.T) {
	for _, side := range sides() {
		first, second := must(dither.Table(side)), must(dither.Table(side))
		for y := range side {
			row := second[y][:cap(second[y])]
			for x := range row {
				row[x] = -1 - y
			}
			for below := y + 1; below < side; below++ {
				if slices.ContainsFunc(second[below], func(b int) bool { return b < 0 }) {
					t.Fatalf("Table(%d): the rows %d and %d share memory", side, y, below)
				}
			}
			for above := range y {
				if !slices.Equal(second[above], slices.Repeat([]int{-1 - above}, side)) {
					t.Fatalf("Table(%d): the rows %d and %d share memory", side, y, above)
				}
			}
		}
		rows := second[:cap(second)]
		for i := range rows {
			rows[i] = nil
		}
		third := must(dither.Table(side))
		for y := range side {
			for x := range side {
				if want := tableTold(side, x, y); first[y][x] != want || third[y][x] != want {
					t.Fatalf("Table(%d): what is done with one is seen in another one", side)
				}
			}
		}
	}
}
