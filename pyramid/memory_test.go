package pyramid_test

import (
	"slices"
	"testing"

	"halide/api"
	"halide/pyramid"
)

const guard = 0x55AA55AA

// inRoom: the same planes, their samples in the middle of longer lists, themselves in the middle of a longer list.
func inRoom(l []api.Plane) (inner, planes []api.Plane, rooms [][]uint32) {
	planes = append(planes, api.Plane{W: guard})
	for _, p := range l {
		room := append(append([]uint32{guard, guard}, p.S...), guard, guard, guard)
		rooms = append(rooms, room)
		planes = append(planes, api.Plane{W: p.W, H: p.H, S: room[2 : 2+len(p.S)]})
	}
	planes = append(planes, api.Plane{W: guard}, api.Plane{H: guard})
	return planes[1 : 1+len(l)], planes, rooms
}

// spoil overwrites a list and the spare room behind it.
func spoil(l []uint32) {
	l = l[:cap(l)]
	for i := range l {
		l[i] = 0xDEADBEEF
	}
}

// spoilAll overwrites planes, and the spare room behind each of their lists and behind them.
func spoilAll(l []api.Plane) {
	l = l[:cap(l)]
	for i := range l {
		spoil(l[i].S)
		l[i] = api.Plane{W: -7, H: -7}
	}
}

func areSame(l, m []api.Plane) bool { return slices.EqualFunc(l, m, isSame) }

// checkMemory: what is handed in stays, its spare room too; no answer is touched by what is done with another one, or with that; no lists of one answer share any memory.
func checkMemory(t *testing.T, what string, l []api.Plane, call func(l []api.Plane) []api.Plane) {
	t.Helper()
	handed, planes, rooms := inRoom(l)
	thenPlanes, thenRooms := cloneAll(planes), make([][]uint32, len(rooms))
	for i := range rooms {
		thenRooms[i] = slices.Clone(rooms[i])
	}
	isAsBefore := func() bool {
		return areSame(planes, thenPlanes) && slices.EqualFunc(rooms, thenRooms, slices.Equal)
	}
	first := call(handed)
	kept := cloneAll(first)
	second := call(handed)
	if !areSame(first, second) {
		t.Fatalf("%s: asked twice it tells two things", what)
	}
	if !isAsBefore() {
		t.Fatalf("%s: what was handed in has changed", what)
	}
	checkApart(t, what, second)
	spoilAll(second)
	if !isAsBefore() || !areSame(first, kept) {
		t.Fatalf("%s: an answer shares memory", what)
	}
	if !areSame(call(handed), kept) {
		t.Fatalf("%s: what is done with an answer is seen in a later one", what)
	}
	for _, room := range rooms {
		spoil(room)
	}
	spoilAll(planes)
	if !areSame(first, kept) {
		t.Fatalf("%s: what was handed in is kept", what)
	}
}

// checkApart: lists of one answer, one by one overwritten, with the spare room, and made longer.
func checkApart(t *testing.T, what string, l []api.Plane) {
	t.Helper()
	for k := range l {
		kept := cloneAll(l)
		_ = append(l[k].S, guard, guard)
		for i := range l[k].S[:cap(l[k].S)] {
			l[k].S[:cap(l[k].S)][i] ^= guard
		}
		for other := range l {
			if other != k && !isSame(l[other], kept[other]) {
				t.Fatalf("%s: the planes %d and %d share memory", what, k, other)
			}
		}
	}
}

// onePlane: of a call that tells one, a list of it.
func onePlane(p api.Plane, _ api.Errno) []api.Plane { return []api.Plane{p} }

func memoryPlanes() []api.Plane {
	var l []api.Plane
	for _, z := range [][2]int{{1, 1}, {5, 4}, {1, 6}, {4, 1}} {
		l = append(l, somePlanes(z[0], z[1])...)
		l = append(l, allOf(z[0], z[1], one), allOf(z[0], z[1], 0))
	}
	return l
}

func TestP14_2Memory(t *testing.T) {
	for _, p := range memoryPlanes() {
		checkMemory(t, "Reduce", []api.Plane{p}, func(l []api.Plane) []api.Plane { return onePlane(pyramid.Reduce(l[0])) })
	}
}

func TestP14_3Memory(t *testing.T) {
	for _, p := range memoryPlanes() {
		for _, w := range []int{2*p.W - 1, 2 * p.W, 0} {
			checkMemory(t, "Expand", []api.Plane{p}, func(l []api.Plane) []api.Plane { return onePlane(pyramid.Expand(l[0], w, 2*p.H)) })
		}
	}
}

func TestP14_4Memory(t *testing.T) {
	for _, p := range memoryPlanes() {
		checkMemory(t, "Split", []api.Plane{p}, func(l []api.Plane) []api.Plane {
			coarse, fine, _ := pyramid.Split(l[0])
			return []api.Plane{coarse, fine}
		})
		coarse, fine, _ := pyramid.Split(p)
		for _, pair := range [][]api.Plane{{coarse, fine}, {coarse, p}, {p, allOf(9, 9, one)}} {
			checkMemory(t, "Join", pair, func(l []api.Plane) []api.Plane { return onePlane(pyramid.Join(l[0], l[1])) })
		}
	}
}

// A plane may be handed in twice.
func TestP14_4MemoryOfOnePlaneTwice(t *testing.T) {
	for _, s := range []uint32{0, 1, one, minusZero} {
		checkMemory(t, "Join", []api.Plane{rowOf(s)}, func(l []api.Plane) []api.Plane { return onePlane(pyramid.Join(l[0], l[0])) })
		got, e := pyramid.Restore(slices.Repeat([]api.Plane{rowOf(s)}, 2))
		checkPlane(t, "Restore", got, e, joinTold(rowOf(s), rowOf(s)))
	}
}

func TestP14_5Memory(t *testing.T) {
	for _, p := range memoryPlanes() {
		for _, levels := range []int{0, 1, 2, 3, 12, 13} {
			checkMemory(t, "Build", []api.Plane{p}, func(l []api.Plane) []api.Plane {
				told, _ := pyramid.Build(l[0], levels)
				return told
			})
			checkMemory(t, "Restore", ladderOf(p.W, p.H, levels), func(l []api.Plane) []api.Plane { return onePlane(pyramid.Restore(l)) })
		}
		checkMemory(t, "Restore", []api.Plane{p, allOf(7, 7, one)}, func(l []api.Plane) []api.Plane { return onePlane(pyramid.Restore(l)) })
	}
}

// Behind each level there is no other one's: a list made longer is one of its own.
func TestP14_5LevelsHaveNoRoomInOneAnother(t *testing.T) {
	for levels := range api.MaxLevels + 1 {
		l := must(pyramid.Build(bitsByChance(13, 6, 3), levels))
		kept := cloneAll(l)
		for k := range l {
			longer := append(l[k].S, guard)
			longer[len(longer)-1] = guard
		}
		if !areSame(l, kept) {
			t.Fatalf("%d levels: what is put behind a level is seen in another one", levels)
		}
	}
}

// What is asked ahead of a call is not seen in its answer.
func TestP14_5AnswersHangOnArgumentsAlone(t *testing.T) {
	p := bitsByChance(7, 6, 11)
	want := must(pyramid.Build(p, 4))
	for _, z := range someSizes() {
		must(pyramid.Build(allOf(z[0], z[1], infinity), 12))
		must(pyramid.Restore(ladderOf(z[0], z[1], 5)))
	}
	got, e := pyramid.Build(p, 4)
	checkPlanes(t, "Build", got, e, want)
}
