package coder_test

import (
	"slices"
	"testing"

	"halide/coder"
)

// inRoom: the same list in the middle of a longer one.
func inRoom[T any](l []T, guard T) (inner, room []T) {
	room = append(append([]T{guard, guard}, l...), guard, guard, guard)
	return room[2 : 2+len(l)], room
}

// spoil overwrites a list and the spare room behind it.
func spoil[T any](l []T, by T) {
	l = l[:cap(l)]
	for i := range l {
		l[i] = by
	}
}

const guard, spoilt = 0x55AA55AA, 0xDEADBEEF

// What is handed in stays as it is, its spare room too, and isn't kept; no answer shares memory.
func TestP17_3Memory(t *testing.T) {
	for _, l := range lists(1733) {
		inner, room := inRoom(l, guard)
		then := slices.Clone(room)
		first, e := coder.Encode(inner)
		kept := slices.Clone(first)
		second := must(coder.Encode(inner))
		coder.Cost(inner)
		if !slices.Equal(room, then) {
			t.Fatal("Encode, Cost: what was handed in has changed")
		}
		spoil(second, 0xEE)
		checkBytes(t, "Encode, when another answer has changed", first, e, kept)
		again, e := coder.Encode(inner)
		checkBytes(t, "Encode again", again, e, kept)
		spoil(room, spoilt)
		checkBytes(t, "Encode, when what was handed in has changed", first, e, kept)
	}
}

func TestP17_4Memory(t *testing.T) {
	for _, l := range lists(1743) {
		inner, room := inRoom(must(coder.Encode(l)), 0x55)
		then := slices.Clone(room)
		first, e := coder.Decode(inner, len(l))
		second := must(coder.Decode(inner, len(l)))
		coder.Decode(inner, len(l)+1)
		if len(inner) > 0 {
			coder.Decode(inner[:len(inner)-1], len(l))
		}
		if !slices.Equal(room, then) {
			t.Fatal("Decode: what was handed in has changed")
		}
		spoil(second, spoilt)
		checkList(t, "Decode, when another answer has changed", first, e, l)
		again, e := coder.Decode(inner, len(l))
		checkList(t, "Decode again", again, e, l)
		spoil(room, 0xEE)
		checkList(t, "Decode, when what was handed in has changed", first, e, l)
	}
}
